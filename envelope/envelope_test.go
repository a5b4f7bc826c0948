package envelope_test

import (
	"bytes"
	"crypto/sha256"
	"encoding/binary"
	"math"
	"math/rand/v2"
	"slices"
	"testing"

	"shroud/api"
	"shroud/envelope"
	"shroud/tx"
)

// greatest is the greatest number that can be passed.
const greatest = math.MaxUint64

// random is a source with a fixed seed, so that each run tests the same.
func random() *rand.Rand { return rand.New(rand.NewPCG(16, 32)) }

// anyBytes are bytes at random.
func anyBytes(r *rand.Rand, many int) []byte {
	b := make([]byte, many)
	for i := range b {
		b[i] = byte(r.Uint32())
	}
	return b
}

// anyNumber is a number of a size that is chosen at random, too.
func anyNumber(r *rand.Rand) uint64 { return r.Uint64() >> r.IntN(64) }

// someSenders are all senders that may be, those beside them, and some that are like them in their lowest bits.
func someSenders() []int {
	return []int{math.MinInt, -256, -6, -1, 0, 1, 2, 3, 4, 5, 6, 7, 127, 128, 256, 1<<32 + 1, math.MaxInt}
}

// someFees are fees at the bounds of money and of numbers.
func someFees() []uint64 {
	return []uint64{0, 1, 127, 128, 300, 1<<60 - 1, 1 << 60, 1<<60 + 1, 1 << 61, 1 << 63, greatest}
}

// someNumbers are nonces and expiries: the least ones, the greatest ones, and those at the lengths of an encoding.
func someNumbers() []uint64 {
	all := []uint64{0, 1, 300, 1<<60 + 1, greatest - 1, greatest}
	for bits := 7; bits < 64; bits += 7 {
		all = append(all, 1<<bits-1, 1<<bits)
	}
	return all
}

// someBodies are bodies of each length that may be, and longer ones.
func someBodies() [][]byte {
	all := [][]byte{nil, {}}
	r := random()
	for many := 1; many <= 34; many++ {
		all = append(all, anyBytes(r, many))
	}
	for _, many := range []int{64, 127, 128, 255, 256, 257, 256 + 32, 1000} {
		all = append(all, anyBytes(r, many))
	}
	return append(all, []byte{0}, make([]byte, 32), bytes.Repeat([]byte{255}, 32))
}

// fewBodies are bodies at the bounds of their length.
func fewBodies() [][]byte {
	return [][]byte{nil, {}, {7}, bytes.Repeat([]byte{8}, 32), bytes.Repeat([]byte{9}, 33)}
}

// someTransactions are transactions that may be: some of each length of an encoding that there is, from 4 to 29 bytes.
func someTransactions() []tx.Tx {
	all := []tx.Tx{}
	r := random()
	for many := range 17 {
		memo := anyBytes(r, many)
		all = append(all, tx.Tx{Kind: tx.Note, Memo: memo})
		for _, amount := range []uint64{0, 300, 1 << 60, greatest} {
			all = append(all, tx.Tx{Kind: tx.Pay, To: r.IntN(6), Amount: amount, Memo: memo})
		}
	}
	return append(all, tx.Tx{Kind: tx.Note, Memo: []byte{}}, tx.Tx{Kind: tx.Note, Memo: make([]byte, 16)})
}

// noTransactions are transactions that are not valid.
func noTransactions() []tx.Tx {
	return []tx.Tx{
		{}, {Kind: -1}, {Kind: 3}, {Kind: 1, To: -1}, {Kind: 1, To: 6}, {Kind: 2, To: 1}, {Kind: 2, Amount: 1},
		{Kind: 1, Memo: make([]byte, 17)}, {Kind: 2, Memo: make([]byte, 1000)},
	}
}

// same tells whether two envelopes have the same values.
func same(a, b api.Envelope) bool {
	return a.Sender == b.Sender && a.Nonce == b.Nonce && a.Fee == b.Fee && a.Expiry == b.Expiry && bytes.Equal(a.Body, b.Body)
}

// sameTx tells whether two transactions have the same values.
func sameTx(a, b tx.Tx) bool {
	return a.Kind == b.Kind && a.To == b.To && a.Amount == b.Amount && bytes.Equal(a.Memo, b.Memo)
}

// mayBe tells whether there may be such a transaction.
func mayBe(x tx.Tx) bool {
	pay := x.Kind == 1 && x.To > -1 && x.To < 6
	note := x.Kind == 2 && x.To == 0 && x.Amount == 0
	return (pay || note) && len(x.Memo) < 17
}

// slowCheck is what Check is to return.
func slowCheck(e api.Envelope) api.Errno {
	switch {
	case !slices.Contains([]int{0, 1, 2, 3, 4, 5}, e.Sender):
		return api.ErrArg
	case e.Fee > 1152921504606846976:
		return api.ErrOver
	case len(e.Body) == 0 || len(e.Body) >= 33:
		return api.ErrRange
	}
	return api.OK
}

// values are numbers and a byte string as bytes, by the library's varints.
func values(text []byte, numbers ...uint64) []byte {
	b := []byte{}
	for _, n := range append(numbers, uint64(len(text))) {
		b = binary.AppendUvarint(b, n)
	}
	return append(b, text...)
}

// slowEncode is the encoding of an envelope that may be.
func slowEncode(e api.Envelope) []byte {
	return values(e.Body, uint64(e.Sender), e.Nonce, e.Fee, e.Expiry)
}

// slowEncodeTx is the encoding of a transaction that may be.
func slowEncodeTx(x tx.Tx) []byte {
	return values(x.Memo, uint64(x.Kind), uint64(x.To), x.Amount)
}

// slowNumber is the number that bytes begin with, which may be up to the most, and what is behind it.
func slowNumber(b []byte, most uint64) (uint64, []byte, api.Errno) {
	n, many := binary.Uvarint(b)
	switch {
	case many < 0 || many == 0 && len(b) >= binary.MaxVarintLen64:
		return 0, nil, api.ErrKind
	case many == 0:
		return 0, nil, api.ErrShort
	case len(binary.AppendUvarint(nil, n)) != many:
		return 0, nil, api.ErrKind
	case n > most:
		return 0, nil, api.ErrOver
	}
	return n, b[many:], api.OK
}

// slowValues are the numbers and the byte string of bytes, which may be up to these; the last of them is for its length.
func slowValues(b []byte, most ...uint64) ([]uint64, []byte, api.Errno) {
	numbers := []uint64{}
	for _, m := range most {
		n, rest, e := slowNumber(b, m)
		if e != api.OK {
			return nil, nil, e
		}
		numbers, b = append(numbers, n), rest
	}
	switch length := numbers[len(most)-1]; {
	case length > uint64(len(b)):
		return nil, nil, api.ErrShort
	case length < uint64(len(b)):
		return nil, nil, api.ErrTail
	}
	return numbers, b, api.OK
}

// slowDecode is what Decode is to return.
func slowDecode(b []byte) (api.Envelope, api.Errno) {
	n, body, errno := slowValues(b, 5, greatest, 1<<60, greatest, 32)
	if errno != api.OK {
		return api.Envelope{}, errno
	}
	if len(body) == 0 {
		return api.Envelope{}, api.ErrRange
	}
	return api.Envelope{Sender: int(n[0]), Nonce: n[1], Fee: n[2], Expiry: n[3], Body: body}, api.OK
}

// xor is the sum of two byte strings of the same length.
func xor(a, b []byte) []byte {
	sums := slices.Clone(a)
	for i := range sums {
		sums[i] ^= b[i]
	}
	return sums
}

// fill is a text filled to a length that is greater than its own.
func fill(text []byte, length int) []byte {
	return slices.Concat([]byte{byte(len(text))}, text, make([]byte, length-1-len(text)))
}

// slowMake is what Make is to return.
func slowMake(sender int, nonce, fee, expiry uint64, x tx.Tx, pad []byte) (api.Envelope, api.Errno) {
	if !mayBe(x) {
		return api.Envelope{}, api.ErrArg
	}
	text := slowEncodeTx(x)
	if len(pad) <= len(text) || len(pad) > 256 {
		return api.Envelope{}, api.ErrFull
	}
	e := api.Envelope{Sender: sender, Nonce: nonce, Fee: fee, Expiry: expiry, Body: xor(fill(text, len(pad)), pad)}
	if errno := slowCheck(e); errno != api.OK {
		return api.Envelope{}, errno
	}
	return e, api.OK
}

// slowOpen is what Open is to return.
func slowOpen(e api.Envelope, pad []byte) (tx.Tx, api.Errno) {
	if errno := slowCheck(e); errno != api.OK {
		return tx.Tx{}, errno
	}
	if len(pad) != len(e.Body) {
		return tx.Tx{}, api.ErrArg
	}
	plain := xor(e.Body, pad)
	length := int(plain[0])
	if length >= len(plain) || !bytes.Equal(plain[1+length:], make([]byte, len(plain)-1-length)) {
		return tx.Tx{}, api.ErrCode
	}
	n, memo, errno := slowValues(plain[1:1+length], 2, 5, greatest, 16)
	if errno != api.OK {
		return tx.Tx{}, api.ErrCode
	}
	x := tx.Tx{Kind: int(n[0]), To: int(n[1]), Amount: n[2], Memo: memo}
	if !mayBe(x) {
		return tx.Tx{}, api.ErrCode
	}
	return x, api.OK
}

// checkEnvelope takes the right results of Check, Encode and Id alone and, if there is an encoding, a Decode that inverts
// it. It returns the error.
func checkEnvelope(t *testing.T, e api.Envelope) api.Errno {
	t.Helper()
	want := slowCheck(e)
	wantBytes, wantId := []byte(nil), api.Digest{}
	if want == api.OK {
		wantBytes = slowEncode(e)
		wantId = sha256.Sum256(wantBytes)
	}
	if errno := envelope.Check(e); errno != want {
		t.Errorf("Check(%v): error %d, not %d", e, errno, want)
	}
	b, errno := envelope.Encode(e)
	if !bytes.Equal(b, wantBytes) || errno != want {
		t.Errorf("Encode(%v): %x, error %d, not %x, error %d", e, b, errno, wantBytes, want)
	}
	if id := envelope.Id(e); id != wantId {
		t.Errorf("Id(%v): %x, not %x", e, id, wantId)
	}
	if want != api.OK {
		return want
	}
	if again, errno := envelope.Decode(b); !same(again, e) || errno != api.OK {
		t.Errorf("Decode(%x): %v, error %d, not %v", b, again, errno, e)
	}
	return want
}

// checkDecode takes the right result of Decode alone and, if there is an envelope, an Encode that inverts it. It returns
// the error.
func checkDecode(t *testing.T, b []byte) api.Errno {
	t.Helper()
	want, wantError := slowDecode(b)
	e, errno := envelope.Decode(b)
	if !same(e, want) || errno != wantError {
		t.Errorf("Decode(%x): %v, error %d, not %v, error %d", b, e, errno, want, wantError)
	}
	if errno != api.OK {
		return errno
	}
	if again, errno := envelope.Encode(e); !bytes.Equal(again, b) || errno != api.OK {
		t.Errorf("Encode(%v): %x, error %d, not %x", e, again, errno, b)
	}
	return errno
}

// checkMake takes the right result of Make alone, and returns it.
func checkMake(t *testing.T, sender int, nonce, fee, expiry uint64, x tx.Tx, pad []byte) (api.Envelope, api.Errno) {
	t.Helper()
	want, wantError := slowMake(sender, nonce, fee, expiry, x, pad)
	e, errno := envelope.Make(sender, nonce, fee, expiry, x, pad)
	if !same(e, want) || errno != wantError {
		t.Errorf("Make(%d, %d, %d, %d, %v, %x): %v, error %d, not %v, error %d", sender, nonce, fee, expiry, x, pad, e, errno, want, wantError)
	}
	return e, errno
}

// checkOpen takes the right result of Open alone, and returns the error.
func checkOpen(t *testing.T, e api.Envelope, pad []byte) api.Errno {
	t.Helper()
	want, wantError := slowOpen(e, pad)
	x, errno := envelope.Open(e, pad)
	if !sameTx(x, want) || errno != wantError {
		t.Errorf("Open(%v, %x): %v, error %d, not %v, error %d", e, pad, x, errno, want, wantError)
	}
	return errno
}

// checkOpensTo takes an Open alone that returns this transaction.
func checkOpensTo(t *testing.T, e api.Envelope, pad []byte, want tx.Tx) {
	t.Helper()
	if x, errno := envelope.Open(e, pad); !sameTx(x, want) || errno != api.OK {
		t.Errorf("Open(%v, %x): %v, error %d, not %v", e, pad, x, errno, want)
	}
}

// P16.3: the example of the chapter.
func TestExample(t *testing.T) {
	e := api.Envelope{Body: []byte{0}}
	if x, errno := envelope.Open(e, []byte{0}); !sameTx(x, tx.Tx{}) || errno != api.ErrCode {
		t.Errorf("Open: %v, error %d", x, errno)
	}
	if errno := envelope.Check(e); errno != api.OK {
		t.Errorf("Check: error %d", errno)
	}
}

// P16.1: errors of Check that are written out here, each bound from both sides, and several at once.
func TestCheck(t *testing.T) {
	one, most, over := []byte{0}, make([]byte, api.MaxBody), make([]byte, api.MaxBody+1)
	for _, c := range []struct {
		e    api.Envelope
		want api.Errno
	}{
		{api.Envelope{Sender: -1, Body: one}, api.ErrArg}, {api.Envelope{Sender: 0, Body: one}, api.OK},
		{api.Envelope{Sender: api.Accounts - 1, Body: one}, api.OK}, {api.Envelope{Sender: api.Accounts, Body: one}, api.ErrArg},
		{api.Envelope{Sender: math.MinInt, Body: one}, api.ErrArg}, {api.Envelope{Sender: math.MaxInt, Body: one}, api.ErrArg},
		{api.Envelope{Fee: api.MaxMoney, Body: one}, api.OK}, {api.Envelope{Fee: api.MaxMoney + 1, Body: one}, api.ErrOver},
		{api.Envelope{Fee: greatest, Body: one}, api.ErrOver}, {api.Envelope{Nonce: greatest, Expiry: greatest, Body: one}, api.OK},
		{api.Envelope{}, api.ErrRange}, {api.Envelope{Body: []byte{}}, api.ErrRange},
		{api.Envelope{Body: most}, api.OK}, {api.Envelope{Body: over}, api.ErrRange}, {api.Envelope{Body: make([]byte, 1<<24)}, api.ErrRange},
		{api.Envelope{Sender: 5, Nonce: greatest, Fee: api.MaxMoney, Expiry: greatest, Body: most}, api.OK},
		{api.Envelope{Sender: -1, Fee: api.MaxMoney + 1}, api.ErrArg}, {api.Envelope{Sender: 6, Fee: api.MaxMoney + 1, Body: over}, api.ErrArg},
		{api.Envelope{Sender: -1, Body: over}, api.ErrArg}, {api.Envelope{Sender: 6}, api.ErrArg}, {api.Envelope{Sender: 6, Fee: greatest, Body: one}, api.ErrArg},
		{api.Envelope{Fee: api.MaxMoney + 1}, api.ErrOver}, {api.Envelope{Fee: api.MaxMoney + 1, Body: over}, api.ErrOver},
	} {
		b, errno := envelope.Encode(c.e)
		if checked := envelope.Check(c.e); checked != c.want || errno != c.want || (len(b) > 0) != (c.want == api.OK) {
			t.Errorf("Sender %d, Fee %d, %d bytes: Check returns %d and Encode %x, %d, not %d", c.e.Sender, c.e.Fee, len(c.e.Body), checked, b, errno, c.want)
		}
		if id := envelope.Id(c.e); (id == api.Digest{}) != (c.want != api.OK) {
			t.Errorf("Sender %d, Fee %d, %d bytes: Id returns %x", c.e.Sender, c.e.Fee, len(c.e.Body), id)
		}
	}
}

// P16.1: encodings that are written out here, and an identifier that another program computed.
func TestEncode(t *testing.T) {
	most := bytes.Repeat([]byte{7}, 32)
	for _, c := range []struct {
		e    api.Envelope
		want []byte
	}{
		{api.Envelope{Body: []byte{0}}, []byte{0, 0, 0, 0, 1, 0}},
		{api.Envelope{Sender: 1, Nonce: 2, Fee: 3, Expiry: 4, Body: []byte{5, 6}}, []byte{1, 2, 3, 4, 2, 5, 6}},
		{api.Envelope{Sender: 5, Nonce: 127, Fee: 128, Expiry: 300, Body: []byte{255}}, []byte{5, 127, 0x80, 1, 0xac, 2, 1, 255}},
		{api.Envelope{Nonce: greatest, Body: []byte{9}}, []byte{0, 255, 255, 255, 255, 255, 255, 255, 255, 255, 1, 0, 0, 1, 9}},
		{api.Envelope{Expiry: greatest, Body: []byte{9}}, []byte{0, 0, 0, 255, 255, 255, 255, 255, 255, 255, 255, 255, 1, 1, 9}},
		{api.Envelope{Fee: api.MaxMoney, Body: most}, append([]byte{0, 0, 0x80, 0x80, 0x80, 0x80, 0x80, 0x80, 0x80, 0x80, 0x10, 0, 32}, most...)},
	} {
		if b, errno := envelope.Encode(c.e); !bytes.Equal(b, c.want) || errno != api.OK {
			t.Errorf("Encode(%v): %x, error %d, not %x", c.e, b, errno, c.want)
		}
		if checkEnvelope(t, c.e) != api.OK {
			t.Errorf("%v is not valid", c.e)
		}
	}
	// printf '\001\002\003\004\002\005\006' | sha256sum
	want := api.Digest{
		0xdf, 0x6e, 0x5b, 0xa0, 0xd7, 0x03, 0x12, 0x80, 0x82, 0x5e, 0xed, 0x19, 0x23, 0xd6, 0x50, 0x6d,
		0xdb, 0xee, 0xd7, 0x4e, 0xbc, 0x26, 0x85, 0xf9, 0xae, 0x16, 0x84, 0xe2, 0xa3, 0x7b, 0x64, 0x5e,
	}
	if id := envelope.Id(api.Envelope{Sender: 1, Nonce: 2, Fee: 3, Expiry: 4, Body: []byte{5, 6}}); id != want {
		t.Errorf("Id: %x", id)
	}
}

// P16.1: all values with each other.
func TestEncodeOfAll(t *testing.T) {
	valid := 0
	for _, sender := range someSenders() {
		for _, fee := range someFees() {
			for _, nonce := range []uint64{0, 300, greatest} {
				for _, expiry := range []uint64{0, 127, greatest} {
					for _, body := range fewBodies() {
						if checkEnvelope(t, api.Envelope{Sender: sender, Nonce: nonce, Fee: fee, Expiry: expiry, Body: body}) == api.OK {
							valid++
						}
					}
				}
			}
		}
	}
	if valid != 6*7*3*3*2 {
		t.Errorf("%d envelopes are valid", valid)
	}
	for _, body := range someBodies() {
		for _, n := range someNumbers() {
			checkEnvelope(t, api.Envelope{Sender: 1, Nonce: n, Fee: 2, Expiry: 3, Body: body})
			checkEnvelope(t, api.Envelope{Sender: 1, Nonce: 2, Fee: n, Expiry: 3, Body: body})
			checkEnvelope(t, api.Envelope{Sender: 1, Nonce: 2, Fee: 3, Expiry: n, Body: body})
		}
	}
}

// P16.1: Decode inverts Encode for each byte at each place of a body, and for values at random.
func TestInverse(t *testing.T) {
	for many := 1; many <= 32; many++ {
		for at := range many {
			for value := range 256 {
				body := bytes.Repeat([]byte{99}, many)
				body[at] = byte(value)
				checkEnvelope(t, api.Envelope{Sender: 2, Nonce: 1, Fee: 20, Expiry: 9, Body: body})
			}
		}
	}
	r := random()
	for range 20000 {
		e := api.Envelope{Sender: r.IntN(6), Nonce: anyNumber(r), Fee: anyNumber(r) >> 4, Expiry: anyNumber(r), Body: anyBytes(r, 1+r.IntN(32))}
		if checkEnvelope(t, e) != api.OK {
			t.Errorf("%v is not valid", e)
		}
	}
}

// P16.1: envelopes that differ in one value have different identifiers.
func TestIdsDiffer(t *testing.T) {
	seen := map[api.Digest]api.Envelope{{}: {}}
	for sender := range 6 {
		for _, body := range [][]byte{{0}, {0, 0}, {1}, {1, 0}, {0, 1}} {
			for n := range uint64(27) {
				e := api.Envelope{Sender: sender, Nonce: n % 3, Fee: n / 3 % 3, Expiry: n / 9, Body: body}
				id := envelope.Id(e)
				if other, there := seen[id]; there {
					t.Errorf("%v and %v have the identifier %x", e, other, id)
				}
				seen[id] = e
			}
		}
	}
}

// P16.1: errors of Decode that are written out here. Where several apply, that of decoding comes first, and ErrTail is one.
func TestDecodeErrors(t *testing.T) {
	long := func(many int, head ...byte) []byte { return append(head, make([]byte, many)...) }
	for _, c := range []struct {
		b    []byte
		want api.Errno
	}{
		{nil, api.ErrShort}, {[]byte{}, api.ErrShort}, {[]byte{1}, api.ErrShort}, {[]byte{1, 2, 3, 4}, api.ErrShort}, {[]byte{1, 2, 3, 4, 2, 5}, api.ErrShort},
		{[]byte{1, 2, 3, 0x84}, api.ErrShort}, {[]byte{1, 2, 3, 4, 1}, api.ErrShort}, {long(31, 0, 0, 0, 0, 32), api.ErrShort},
		{[]byte{1, 2, 3, 4, 1, 5, 6}, api.ErrTail}, {long(33, 0, 0, 0, 0, 32), api.ErrTail}, {[]byte{0, 0, 0, 0, 0, 0}, api.ErrTail},
		{[]byte{0x81, 0, 2, 3, 4, 1, 5}, api.ErrKind}, {[]byte{1, 0x82, 0, 3, 4, 1, 5}, api.ErrKind}, {[]byte{1, 2, 0x83, 0, 4, 1, 5}, api.ErrKind},
		{[]byte{1, 2, 3, 0x84, 0, 1, 5}, api.ErrKind}, {[]byte{1, 2, 3, 4, 0x81, 0, 5}, api.ErrKind}, {[]byte{1, 2, 3, 4, 0x80, 0}, api.ErrKind},
		{[]byte{6, 0, 0, 0, 1, 0}, api.ErrOver}, {[]byte{127, 0, 0, 0, 1, 0}, api.ErrOver}, {[]byte{0x81, 2, 0, 0, 0, 1, 0}, api.ErrOver}, {[]byte{6}, api.ErrOver},
		{[]byte{0, 0, 0x81, 0x80, 0x80, 0x80, 0x80, 0x80, 0x80, 0x80, 0x10, 0, 1, 0}, api.ErrOver}, {append([]byte{0, 0}, bytes.Repeat([]byte{255}, 10)...), api.ErrKind},
		{[]byte{0, 0, 255, 255, 255, 255, 255, 255, 255, 255, 255, 1}, api.ErrOver},
		{long(33, 0, 0, 0, 0, 33), api.ErrOver}, {[]byte{0, 0, 0, 0, 33}, api.ErrOver}, {[]byte{0, 0, 0, 0, 0xa0, 2}, api.ErrOver},
		{[]byte{0, 0, 0, 0, 0}, api.ErrRange}, {[]byte{5, 1, 2, 3, 0}, api.ErrRange}, {[]byte{6, 0, 0, 0, 0}, api.ErrOver},
		{[]byte{0, 0, 0, 0, 1, 0}, api.OK}, {long(32, 0, 0, 0, 0, 32), api.OK}, {[]byte{5, 0, 0, 0, 1, 9}, api.OK},
		{[]byte{0, 0, 0x80, 0x80, 0x80, 0x80, 0x80, 0x80, 0x80, 0x80, 0x10, 0, 1, 0}, api.OK},
		{[]byte{0, 255, 255, 255, 255, 255, 255, 255, 255, 255, 1, 0, 255, 255, 255, 255, 255, 255, 255, 255, 255, 1, 1, 0}, api.OK},
	} {
		if e, errno := envelope.Decode(c.b); errno != c.want || (c.want != api.OK && !same(e, api.Envelope{})) {
			t.Errorf("Decode(%x): %v, error %d, not %d", c.b, e, errno, c.want)
		}
		checkDecode(t, c.b)
	}
}

// P16.1: each bound of a value, from both sides, with each other.
func TestDecodeBounds(t *testing.T) {
	for sender := range uint64(8) {
		for _, fee := range someFees() {
			for _, n := range someNumbers() {
				for _, body := range fewBodies() {
					checkDecode(t, values(body, sender, n, fee, 0))
					checkDecode(t, values(body, sender, 0, fee, n))
				}
			}
		}
	}
	for _, n := range append(someNumbers(), someFees()...) {
		for _, body := range someBodies() {
			checkDecode(t, values(body, n, 0, 0, 0))
			checkDecode(t, values(body, 1, n, 0, 0))
			checkDecode(t, values(body, 1, 0, n, 0))
			checkDecode(t, values(body, 1, 0, 0, n))
		}
		checkDecode(t, append(binary.AppendUvarint([]byte{1, 2, 3, 4}, n), make([]byte, 400)...))
	}
}

// encodings are several envelopes that may be, as bytes.
func encodings() [][]byte {
	all := [][]byte{}
	for _, body := range someBodies() {
		if len(body) < 1 || len(body) > 32 {
			continue
		}
		for _, n := range []uint64{0, 127, 128, 1 << 60} {
			all = append(all, values(body, 5, n, n, 0), values(body, 0, greatest, 20, n))
		}
	}
	return all
}

// P16.1: each beginning of an encoding, and each byte behind one.
func TestDecodeOfParts(t *testing.T) {
	for _, b := range encodings() {
		if errno := checkDecode(t, b); errno != api.OK {
			t.Errorf("Decode(%x): error %d", b, errno)
		}
		for end := range b {
			if errno := checkDecode(t, b[:end]); errno != api.ErrShort {
				t.Errorf("Decode(%x) of %x: error %d", b[:end], b, errno)
			}
		}
		for more := range 256 {
			if errno := checkDecode(t, slices.Concat(b, []byte{byte(more)})); errno != api.ErrTail {
				t.Errorf("Decode(%x) with %x behind it: error %d", b, more, errno)
			}
		}
		checkDecode(t, slices.Concat(b, b))
	}
}

// P16.1: a number that is not encoded in as few bytes as possible, or is above 2^64 - 1, in each of the five places.
func TestDecodeOfOtherNumbers(t *testing.T) {
	parts := [][]byte{{1}, {5}, {0xac, 2}, {9}, {2}}
	for place := range parts {
		others := [][]byte{
			{0x80, 0}, {0x81, 0}, {0x80, 0x80, 0}, {0xac, 0x82, 0}, append(bytes.Repeat([]byte{0xff}, 9), 2), append(bytes.Repeat([]byte{0x80}, 9), 0),
			append(bytes.Repeat([]byte{0x80}, 10), 0), bytes.Repeat([]byte{0xff}, 30),
		}
		for extra := 1; extra < 8; extra++ {
			long := slices.Clone(parts[place])
			long[len(long)-1] |= 0x80
			others = append(others, slices.Concat(long, bytes.Repeat([]byte{0x80}, extra-1), []byte{0}))
		}
		for _, other := range others {
			b := slices.Concat(slices.Concat(parts[:place]...), other, slices.Concat(parts[place+1:]...), []byte("ab"))
			if errno := checkDecode(t, b); errno != api.ErrKind {
				t.Errorf("Decode(%x): error %d", b, errno)
			}
		}
	}
}

// P16.1: all short byte strings of bytes that matter.
func TestDecodeOfAll(t *testing.T) {
	letters := []byte{0, 1, 2, 5, 6, 32, 33, 0x80, 0xff}
	decoded := 0
	var extend func(b []byte)
	extend = func(b []byte) {
		if checkDecode(t, b) == api.OK {
			decoded++
		}
		for _, letter := range letters {
			if len(b) < 6 {
				extend(append(b, letter))
			}
		}
	}
	extend(make([]byte, 0, 6))
	if decoded < 1000 {
		t.Errorf("only %d byte strings are envelopes", decoded)
	}
}

// P16.1: encodings that are changed in a byte, bytes at random, and many bytes.
func TestDecodeOfAny(t *testing.T) {
	r := random()
	for _, b := range encodings() {
		for at := range b {
			for _, change := range []byte{1, 2, 3, 0x7f, 0x80, 0x81, byte(r.Uint32())} {
				changed := slices.Clone(b)
				changed[at] ^= change
				checkDecode(t, changed)
			}
		}
	}
	for range 20000 {
		b := anyBytes(r, r.IntN(50))
		for i := range b {
			b[i] >>= r.IntN(8)
		}
		checkDecode(t, b)
	}
	checkDecode(t, make([]byte, 1<<20))
	checkDecode(t, bytes.Repeat([]byte{1}, 1<<20))
	checkDecode(t, bytes.Repeat([]byte{0xff}, 1<<20))
}

// P16.2: an envelope that is written out here.
func TestMake(t *testing.T) {
	pad := []byte{1, 2, 4, 8, 16, 32, 64, 128}
	pay := tx.Tx{Kind: tx.Pay, To: 2, Amount: 300}
	e, errno := envelope.Make(3, 7, 20, 5, pay, pad)
	want := api.Envelope{Sender: 3, Nonce: 7, Fee: 20, Expiry: 5, Body: []byte{5 ^ 1, 1 ^ 2, 2 ^ 4, 0xac ^ 8, 2 ^ 16, 0 ^ 32, 64, 128}}
	if !same(e, want) || errno != api.OK {
		t.Errorf("Make: %v, error %d, not %v", e, errno, want)
	}
	checkOpensTo(t, e, pad, pay)
	note := tx.Tx{Kind: tx.Note, Memo: []byte("hi")}
	e, errno = envelope.Make(0, 0, 0, 0, note, make([]byte, 7))
	if want := (api.Envelope{Body: []byte{6, 2, 0, 0, 2, 'h', 'i'}}); !same(e, want) || errno != api.OK {
		t.Errorf("Make: %v, error %d, not %v", e, errno, want)
	}
	checkOpensTo(t, e, make([]byte, 7), note)
}

// P16.2: errors that are written out here. That of the transaction comes first, then that of the length of the pad.
func TestMakeErrors(t *testing.T) {
	valid, invalid, longest := tx.Tx{Kind: tx.Pay, To: 2, Amount: 300}, tx.Tx{Kind: 3}, tx.Tx{Kind: tx.Pay, Amount: greatest, Memo: make([]byte, 16)}
	for _, c := range []struct {
		sender int
		fee    uint64
		x      tx.Tx
		pad    int
		want   api.Errno
	}{
		{0, 0, valid, 6, api.OK}, {5, api.MaxMoney, valid, api.MaxBody, api.OK},
		{0, 0, longest, 30, api.OK}, {0, 0, longest, 31, api.OK}, {0, 0, longest, 32, api.OK}, {0, 0, longest, 29, api.ErrFull}, {0, 0, longest, 33, api.ErrRange},
		{0, 0, valid, 0, api.ErrFull}, {0, 0, valid, 1, api.ErrFull}, {0, 0, valid, 5, api.ErrFull}, {0, 0, valid, 257, api.ErrFull}, {0, 0, valid, 1 << 16, api.ErrFull},
		{0, 0, valid, api.MaxBody + 1, api.ErrRange}, {0, 0, valid, 255, api.ErrRange}, {0, 0, valid, 256, api.ErrRange},
		{-1, 0, valid, 6, api.ErrArg}, {6, 0, valid, 6, api.ErrArg}, {math.MinInt, 0, valid, 6, api.ErrArg}, {math.MaxInt, 0, valid, 6, api.ErrArg},
		{0, api.MaxMoney + 1, valid, 6, api.ErrOver}, {0, greatest, valid, 6, api.ErrOver},
		{-1, 0, valid, 5, api.ErrFull}, {6, 0, valid, 257, api.ErrFull}, {0, api.MaxMoney + 1, valid, 5, api.ErrFull}, {6, greatest, valid, 0, api.ErrFull},
		{6, 0, valid, 33, api.ErrArg}, {-1, greatest, valid, 33, api.ErrArg}, {0, api.MaxMoney + 1, valid, 33, api.ErrOver}, {6, greatest, valid, 6, api.ErrArg},
		{0, 0, invalid, 6, api.ErrArg}, {0, 0, invalid, 0, api.ErrArg}, {0, 0, invalid, 257, api.ErrArg}, {0, 0, invalid, 33, api.ErrArg},
		{0, greatest, invalid, 6, api.ErrArg}, {6, greatest, invalid, 0, api.ErrArg},
	} {
		e, errno := envelope.Make(c.sender, 1, c.fee, 2, c.x, make([]byte, c.pad))
		if errno != c.want || (c.want != api.OK && !same(e, api.Envelope{})) {
			t.Errorf("Make by %d with the fee %d, %v, under %d bytes: %v, error %d, not %d", c.sender, c.fee, c.x, c.pad, e, errno, c.want)
		}
		checkMake(t, c.sender, 1, c.fee, 2, c.x, make([]byte, c.pad))
	}
	if e, errno := envelope.Make(0, 0, 0, 0, valid, nil); !same(e, api.Envelope{}) || errno != api.ErrFull {
		t.Errorf("Make under a nil pad: %v, error %d", e, errno)
	}
}

// P16.2 and P16.4: each transaction under pads of each length: what is made opens under its pad.
func TestMakeOfAll(t *testing.T) {
	r := random()
	made := 0
	for _, x := range append(someTransactions(), noTransactions()...) {
		for length := range 40 {
			pad := anyBytes(r, length)
			e, errno := checkMake(t, r.IntN(6), anyNumber(r), anyNumber(r)>>4, anyNumber(r), x, pad)
			if fits := mayBe(x) && length > len(slowEncodeTx(x)) && length <= 32; fits != (errno == api.OK) {
				t.Errorf("Make of %v under %d bytes: error %d", x, length, errno)
			}
			if errno == api.OK {
				made++
				checkOpensTo(t, e, pad, x)
				checkEnvelope(t, e)
			}
		}
		for _, length := range []int{255, 256, 257, 1000} {
			checkMake(t, 1, 2, 3, 4, x, anyBytes(r, length))
		}
	}
	if made < 500 {
		t.Errorf("only %d envelopes were made", made)
	}
}

// P16.2: all senders, fees and numbers, with each other.
func TestMakeOfValues(t *testing.T) {
	pad := anyBytes(random(), 33)
	for _, x := range []tx.Tx{{Kind: tx.Note}, {Kind: tx.Pay, To: 5, Memo: []byte("memo")}, {Kind: 0}, {Kind: tx.Pay, To: 6}} {
		for _, sender := range someSenders() {
			for _, fee := range someFees() {
				for _, length := range []int{0, 4, 5, 8, 9, 32, 33} {
					checkMake(t, sender, 300, fee, greatest, x, pad[:length])
				}
			}
		}
		for _, n := range someNumbers() {
			checkMake(t, 2, n, 20, 1, x, pad[:32])
			checkMake(t, 2, 1, 20, n, x, pad[:32])
		}
	}
}

// P16.3: errors of Open that are written out here. That of Check comes first, then that of the length of the pad.
func TestOpenErrors(t *testing.T) {
	good := []byte{5, 1, 2, 0xac, 2, 0, 0, 0}
	zeros := make([]byte, 40)
	for _, c := range []struct {
		e    api.Envelope
		pad  []byte
		want api.Errno
	}{
		{api.Envelope{Body: good}, zeros[:8], api.OK}, {api.Envelope{Body: good[:6]}, zeros[:6], api.OK},
		{api.Envelope{Sender: 6, Body: good}, zeros[:8], api.ErrArg}, {api.Envelope{Sender: -1, Body: good}, zeros[:8], api.ErrArg},
		{api.Envelope{Fee: api.MaxMoney + 1, Body: good}, zeros[:8], api.ErrOver}, {api.Envelope{Fee: api.MaxMoney + 1, Body: good}, nil, api.ErrOver},
		{api.Envelope{}, nil, api.ErrRange}, {api.Envelope{Body: []byte{}}, []byte{}, api.ErrRange}, {api.Envelope{}, zeros[:1], api.ErrRange},
		{api.Envelope{Body: zeros[:33]}, zeros[:33], api.ErrRange}, {api.Envelope{Body: zeros[:33]}, zeros[:32], api.ErrRange},
		{api.Envelope{Body: slices.Concat(good, zeros[:24])}, zeros[:32], api.OK}, {api.Envelope{Body: slices.Concat(good, zeros[:25])}, zeros[:33], api.ErrRange},
		{api.Envelope{Body: good}, nil, api.ErrArg}, {api.Envelope{Body: good}, []byte{}, api.ErrArg}, {api.Envelope{Body: good}, zeros[:7], api.ErrArg},
		{api.Envelope{Body: good}, zeros[:9], api.ErrArg}, {api.Envelope{Body: good}, zeros[:1], api.ErrArg}, {api.Envelope{Body: good}, make([]byte, 1<<20), api.ErrArg},
		{api.Envelope{Body: zeros[:1]}, zeros[:2], api.ErrArg}, {api.Envelope{Body: zeros[:1]}, nil, api.ErrArg}, {api.Envelope{Body: good[:5]}, zeros[:6], api.ErrArg},
		{api.Envelope{Body: zeros[:1]}, zeros[:1], api.ErrCode}, {api.Envelope{Body: zeros[:32]}, zeros[:32], api.ErrCode}, {api.Envelope{Body: []byte{1}}, zeros[:1], api.ErrCode},
		{api.Envelope{Body: good[:5]}, zeros[:5], api.ErrCode}, {api.Envelope{Body: []byte{5, 1, 2, 0xac, 2, 0, 0, 1}}, zeros[:8], api.ErrCode},
		{api.Envelope{Body: []byte{8, 1, 2, 0, 4, 1, 1, 1}}, zeros[:8], api.ErrCode}, {api.Envelope{Body: []byte{7, 1, 2, 0, 3, 1, 1, 1}}, zeros[:8], api.OK},
		{api.Envelope{Body: []byte{4, 1, 2, 0xac, 2, 0}}, zeros[:6], api.ErrCode}, {api.Envelope{Body: []byte{5, 1, 2, 3, 0, 0}}, zeros[:6], api.ErrCode},
		{api.Envelope{Body: []byte{4, 0, 0, 0, 0}}, zeros[:5], api.ErrCode}, {api.Envelope{Body: []byte{4, 3, 0, 0, 0}}, zeros[:5], api.ErrCode},
		{api.Envelope{Body: []byte{4, 1, 6, 0, 0}}, zeros[:5], api.ErrCode}, {api.Envelope{Body: []byte{4, 2, 1, 0, 0}}, zeros[:5], api.ErrCode},
		{api.Envelope{Body: []byte{4, 2, 0, 1, 0}}, zeros[:5], api.ErrCode}, {api.Envelope{Body: []byte{4, 2, 0, 0, 0}}, zeros[:5], api.OK},
		{api.Envelope{Body: []byte{5, 0x82, 0, 0, 0, 0}}, zeros[:6], api.ErrCode}, {api.Envelope{Body: append([]byte{21, 2, 0, 0, 17}, zeros[:17]...)}, zeros[:22], api.ErrCode},
	} {
		if x, errno := envelope.Open(c.e, c.pad); errno != c.want || (c.want != api.OK && !sameTx(x, tx.Tx{})) {
			t.Errorf("Open(%v, %x): %v, error %d, not %d", c.e, c.pad, x, errno, c.want)
		}
		checkOpen(t, c.e, c.pad)
	}
}

// P16.3: all short bodies of bytes that matter, unsealed; they are sealed under several pads.
func TestOpenOfAll(t *testing.T) {
	letters := []byte{0, 1, 2, 4, 5, 6, 0x80, 0xff}
	r := random()
	pads := [][]byte{make([]byte, 6), anyBytes(r, 6)}
	opened := 0
	var extend func(plain []byte)
	extend = func(plain []byte) {
		for _, pad := range pads {
			if len(plain) > 0 && checkOpen(t, api.Envelope{Sender: 4, Body: xor(plain, pad)}, pad[:len(plain)]) == api.OK {
				opened++
			}
		}
		for _, letter := range letters {
			if len(plain) < 6 {
				extend(append(plain, letter))
			}
		}
	}
	extend(make([]byte, 0, 6))
	if opened < 100 {
		t.Errorf("only %d bodies opened", opened)
	}
}

// P16.3: all envelopes, valid or not, under pads of each length around that of the body.
func TestOpenOfValues(t *testing.T) {
	r := random()
	for _, sender := range someSenders() {
		for _, fee := range someFees() {
			for _, body := range [][]byte{nil, {0}, {4, 2, 0, 0, 0}, fill([]byte{2, 0, 0, 0}, 32), fill([]byte{2, 0, 0, 0}, 33)} {
				for _, length := range []int{0, len(body) - 1, len(body), len(body) + 1, 256} {
					checkOpen(t, api.Envelope{Sender: sender, Fee: fee, Body: body}, make([]byte, max(length, 0)))
				}
			}
		}
	}
	for _, body := range someBodies() {
		for length := range 40 {
			checkOpen(t, api.Envelope{Sender: 1, Nonce: 2, Fee: 3, Expiry: 4, Body: body}, anyBytes(r, length))
		}
		checkOpen(t, api.Envelope{Nonce: greatest, Expiry: greatest, Body: body}, body)
	}
}

// P16.3: what is made, under pads that differ from its own in one byte: most of these do not open it.
func TestOpenUnderWrongPads(t *testing.T) {
	r := random()
	opened, all := 0, 0
	for _, x := range someTransactions() {
		pad := anyBytes(r, len(slowEncodeTx(x))+1+r.IntN(3))
		e, errno := checkMake(t, 1, 2, 3, 4, x, pad)
		if errno != api.OK {
			t.Errorf("Make of %v under %d bytes: error %d", x, len(pad), errno)
		}
		for at := range pad {
			for _, change := range []byte{1, 2, 3, 0x10, 0x80, 0xff} {
				wrong := slices.Clone(pad)
				wrong[at] ^= change
				all++
				if checkOpen(t, e, wrong) == api.OK {
					opened++
				}
			}
		}
		checkOpen(t, e, pad[1:])
		checkOpen(t, e, append(slices.Clone(pad), 0))
	}
	if opened == 0 || opened > all*9/10 {
		t.Errorf("%d of %d pads opened", opened, all)
	}
}

// P16.4: each envelope opens under another pad to each other transaction that is short enough; under that pad, it is what
// Make would have made of the other transaction.
func TestEveryTransaction(t *testing.T) {
	r := random()
	for _, x := range someTransactions() {
		least := len(slowEncodeTx(x)) + 1
		for _, length := range []int{least, (least + 32) / 2, 32} {
			pad := anyBytes(r, length)
			e, _ := checkMake(t, 5, 6, 7, 8, x, pad)
			for _, other := range someTransactions() {
				text := slowEncodeTx(other)
				if len(text) >= length {
					continue
				}
				otherPad := xor(e.Body, fill(text, length))
				checkOpensTo(t, e, otherPad, other)
				if made, errno := envelope.Make(5, 6, 7, 8, other, otherPad); !same(made, e) || errno != api.OK {
					t.Fatalf("of %v there is %v, error %d, not %v", other, made, errno, e)
				}
			}
			checkOpensTo(t, e, pad, x)
		}
	}
}

// P16.4: so does any body that nobody made, whatever it is.
func TestEveryTransactionOfAnyBody(t *testing.T) {
	for _, body := range someBodies() {
		e := api.Envelope{Sender: 1, Fee: 2, Body: body}
		for _, x := range someTransactions() {
			if text := slowEncodeTx(x); len(text) < len(body) && len(body) <= 32 {
				checkOpensTo(t, e, xor(body, fill(text, len(body))), x)
			}
		}
	}
}

// P16.4: where no transaction is short enough, no pad opens.
func TestTooShortForAnyTransaction(t *testing.T) {
	for value := range 1 << 16 {
		pad := []byte{byte(value), byte(value >> 8)}
		for length := 1; length <= 2; length++ {
			if checkOpen(t, api.Envelope{Body: []byte{7, 8}[:length]}, pad[:length]) != api.ErrCode {
				t.Errorf("%x opens", pad[:length])
			}
		}
	}
}

// withMore is a slice with the same bytes, and others beyond its length.
func withMore(b []byte) []byte { return slices.Concat(b, bytes.Repeat([]byte{'y'}, 40))[:len(b)] }

// overwrite changes each byte of the memory of a slice, also that beyond its length.
func overwrite(b []byte) {
	b = b[:cap(b)]
	for i := range b {
		b[i] ^= 0xff
	}
}

// kept watches the memory of slices: it tells whether all of it is as it was, also that beyond their length.
func kept(watched ...[]byte) func() bool {
	began := [][]byte{}
	for _, b := range watched {
		began = append(began, slices.Clone(b[:cap(b)]))
	}
	return func() bool {
		for i, b := range watched {
			if !bytes.Equal(b[:cap(b)], began[i]) {
				return false
			}
		}
		return true
	}
}

// R3, for Check, Encode, Id and Decode: nothing that is passed changes, and no result shares memory with it, or with
// another result.
func TestMemoryOfEncoding(t *testing.T) {
	for _, some := range someBodies() {
		body := withMore(some)
		e := api.Envelope{Sender: 1, Nonce: 2, Fee: 3, Expiry: 4, Body: body}
		unchanged := kept(body)
		first, errno := envelope.Encode(e)
		second, _ := envelope.Encode(e)
		envelope.Check(e)
		envelope.Id(e)
		overwrite(first)
		if want := slowEncode(e); !unchanged() || errno == api.OK && !bytes.Equal(second, want) {
			t.Errorf("Encode of a body of %d bytes returned memory of it, or of another result", len(some))
		}
		overwrite(body)
		e.Body = some
		if want := slowEncode(e); errno == api.OK && !bytes.Equal(second, want) {
			t.Errorf("Encode returned memory of a body of %d bytes", len(some))
		}
		checkMemoryOfDecode(t, slowEncode(e))
	}
}

// checkMemoryOfDecode takes a Decode of these bytes alone that keeps to R3.
func checkMemoryOfDecode(t *testing.T, b []byte) {
	t.Helper()
	memory := withMore(b)
	unchanged := kept(memory)
	first, _ := envelope.Decode(memory)
	second, errno := envelope.Decode(memory)
	want, wantError := slowDecode(b)
	overwrite(first.Body)
	if !unchanged() || errno != wantError || !same(second, want) {
		t.Errorf("Decode(%x) returned memory of its bytes, or of another result", b)
	}
	overwrite(memory)
	if !same(second, want) {
		t.Errorf("Decode(%x) returned memory of its bytes", b)
	}
}

// R3, for Make and Open.
func TestMemoryOfSealing(t *testing.T) {
	r := random()
	for _, x := range append(someTransactions(), noTransactions()...) {
		for _, length := range []int{0, 5, 20, 32, 33, 257} {
			checkMemoryOfMake(t, x, anyBytes(r, length))
		}
	}
}

// checkMemoryOfMake takes a Make alone, and an Open of what is made, that keep to R3.
func checkMemoryOfMake(t *testing.T, x tx.Tx, b []byte) {
	t.Helper()
	pad, memo := withMore(b), withMore(x.Memo)
	mine := tx.Tx{Kind: x.Kind, To: x.To, Amount: x.Amount, Memo: memo}
	unchanged := kept(pad, memo)
	first, _ := envelope.Make(1, 2, 3, 4, mine, pad)
	second, _ := envelope.Make(1, 2, 3, 4, mine, pad)
	want, errno := slowMake(1, 2, 3, 4, x, b)
	overwrite(first.Body)
	if !unchanged() || !same(second, want) {
		t.Errorf("Make of %v under %x returned memory that was passed, or of another result", x, b)
	}
	overwrite(pad)
	overwrite(memo)
	if !same(second, want) {
		t.Errorf("Make of %v under %x returned memory that was passed", x, b)
	}
	if errno == api.OK {
		checkMemoryOfOpen(t, want, b, x)
	}
	checkMemoryOfOpen(t, api.Envelope{Body: b}, b, tx.Tx{})
}

// checkMemoryOfOpen takes an Open to this transaction alone that keeps to R3.
func checkMemoryOfOpen(t *testing.T, e api.Envelope, b []byte, want tx.Tx) {
	t.Helper()
	pad, body := withMore(b), withMore(e.Body)
	e.Body = body
	unchanged := kept(pad, body)
	first, _ := envelope.Open(e, pad)
	second, _ := envelope.Open(e, pad)
	overwrite(first.Memo)
	if !unchanged() || !sameTx(second, want) {
		t.Errorf("Open(%v, %x) returned memory that was passed, or of another result", e, b)
	}
	overwrite(pad)
	overwrite(body)
	if !sameTx(second, want) {
		t.Errorf("Open under %x returned memory that was passed", b)
	}
}

// R3: one slice may be several arguments at once.
func TestSameArguments(t *testing.T) {
	b := []byte{4, 2, 0, 0, 0, 0, 0, 0}
	unchanged := kept(b)
	e, errno := checkMake(t, 1, 2, 3, 4, tx.Tx{Kind: tx.Note, Memo: b[:3]}, b)
	if errno != api.OK {
		t.Errorf("Make: error %d", errno)
	}
	checkOpensTo(t, e, b, tx.Tx{Kind: tx.Note, Memo: []byte{4, 2, 0}})
	if checkOpen(t, api.Envelope{Body: b}, b) != api.ErrCode {
		t.Error("zero bytes opened")
	}
	if !unchanged() {
		t.Errorf("the argument is %x", b)
	}
}

// R4: what is nil is as what is empty.
func TestNilAndEmpty(t *testing.T) {
	for _, none := range [][]byte{nil, {}} {
		if checkEnvelope(t, api.Envelope{Body: none}) != api.ErrRange {
			t.Errorf("the body %v may be", none)
		}
		if checkDecode(t, none) != api.ErrShort {
			t.Errorf("Decode(%v) did not end too early", none)
		}
		if _, errno := checkMake(t, 1, 2, 3, 4, tx.Tx{Kind: tx.Note}, none); errno != api.ErrFull {
			t.Errorf("Make under %v: error %d", none, errno)
		}
		if checkOpen(t, api.Envelope{Body: []byte{0}}, none) != api.ErrArg {
			t.Errorf("Open under %v is not an error of its length", none)
		}
		e, errno := checkMake(t, 1, 2, 3, 4, tx.Tx{Kind: tx.Note, Memo: none}, make([]byte, 5))
		if errno != api.OK || !bytes.Equal(e.Body, []byte{4, 2, 0, 0, 0}) {
			t.Errorf("Make of the memo %v: %v, error %d", none, e, errno)
		}
	}
}

// R6: the same calls have the same results again, after others that failed, too.
func TestAgain(t *testing.T) {
	pad := anyBytes(random(), 20)
	pay := tx.Tx{Kind: tx.Pay, To: 3, Amount: 77, Memo: []byte("again")}
	for range 3 {
		e, _ := checkMake(t, 3, 1, 20, 9, pay, pad)
		checkOpensTo(t, e, pad, pay)
		checkEnvelope(t, e)
		checkDecode(t, slowEncode(e))
		checkMake(t, 6, 1, 20, 9, pay, pad)
		checkMake(t, 3, 1, 20, 9, pay, pad[:9])
		checkOpen(t, e, pad[1:])
		checkOpen(t, e, e.Body)
		checkEnvelope(t, api.Envelope{Sender: -1, Body: pad})
		checkDecode(t, pad)
	}
}
