package ledger

import (
	"math"
	"testing"

	"shroud/api"
)

// P13.3: the last nonce, which no test has the time to reach by calls. Another nonce is ErrNonce there, too.
func TestTurnAtTheEnd(t *testing.T) {
	l, _ := New(100, 200)
	l.accounts[1].nonce = math.MaxUint64 - 1
	for _, nonce := range []uint64{0, math.MaxUint64, math.MaxUint64 - 2} {
		if e := l.Turn(1, nonce); e != api.ErrNonce || l.Nonce(1) != math.MaxUint64-1 {
			t.Errorf("Turn(1, %d): error %d, the nonce %d", nonce, e, l.Nonce(1))
		}
	}
	if e := l.Turn(1, math.MaxUint64-1); e != api.OK || l.Nonce(1) != math.MaxUint64 {
		t.Errorf("Turn at 2^64 - 2: error %d, the nonce %d", e, l.Nonce(1))
	}
	for range 3 {
		if e := l.Turn(1, math.MaxUint64); e != api.ErrOver || l.Nonce(1) != math.MaxUint64 {
			t.Errorf("Turn at 2^64 - 1: error %d, the nonce %d", e, l.Nonce(1))
		}
		for _, nonce := range []uint64{0, 1, math.MaxUint64 - 1} {
			if e := l.Turn(1, nonce); e != api.ErrNonce || l.Nonce(1) != math.MaxUint64 {
				t.Errorf("Turn(1, %d) at 2^64 - 1: error %d, the nonce %d", nonce, e, l.Nonce(1))
			}
		}
	}
	if l.Turn(0, 0) != api.OK || l.Nonce(0) != 1 || l.Total() != 300 || l.Copy().Nonce(1) != math.MaxUint64 {
		t.Error("the last nonce of an account changes something else")
	}
}
