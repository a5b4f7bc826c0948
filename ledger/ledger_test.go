package ledger_test

import (
	"math"
	"math/big"
	"math/rand/v2"
	"slices"
	"testing"

	"shroud/api"
	"shroud/ledger"
)

// greatest is the greatest amount that can be passed.
const greatest = math.MaxUint64

// random is a source with a fixed seed, so that each run tests the same.
func random() *rand.Rand { return rand.New(rand.NewPCG(13, 50)) }

// kind is which of the methods that may change a ledger is called.
type kind int

const (
	hold kind = iota
	free
	pay
	slash
	move
	turn
)

// kinds is all of them, and names what they are called.
var (
	kinds = []kind{hold, free, pay, slash, move, turn}
	names = []string{"Hold", "Free", "Pay", "Slash", "Move", "Turn"}
)

// call is a call of one of them. Only Move has an account to move to; the number is a fee, an amount or a nonce.
type call struct {
	kind    kind
	who, to int
	number  uint64
}

// do makes a call.
func do(l *ledger.Ledger, c call) api.Errno {
	switch c.kind {
	case hold:
		return l.Hold(c.who, c.number)
	case free:
		return l.Free(c.who, c.number)
	case pay:
		return l.Pay(c.who, c.number)
	case slash:
		return l.Slash(c.who, c.number)
	case move:
		return l.Move(c.who, c.to, c.number)
	}
	return l.Turn(c.who, c.number)
}

// model is what a ledger is to be, told by what it began with and by all calls that were to succeed. It adds whole numbers
// of any size.
type model struct {
	balances []uint64
	past     []call
}

// sum adds what a function tells of each call of the past to a number.
func (m model) sum(first uint64, each func(c call, fee, deposit *big.Int) *big.Int) *big.Int {
	all := whole(first)
	for _, c := range m.past {
		if more := each(c, whole(c.number), whole(50)); more != nil {
			all.Add(all, more)
		}
	}
	return all
}

// whole is a number as one of any size.
func whole(n uint64) *big.Int { return new(big.Int).SetUint64(n) }

// minus is its negative.
func minus(n *big.Int) *big.Int { return new(big.Int).Neg(n) }

// plus is the sum of two.
func plus(a, b *big.Int) *big.Int { return new(big.Int).Add(a, b) }

// balance is what somebody has.
func (m model) balance(who int) *big.Int {
	return m.sum(m.balances[who], func(c call, fee, deposit *big.Int) *big.Int {
		switch {
		case c.kind == move && c.who != c.to && c.who == who:
			return minus(fee)
		case c.kind == move && c.who != c.to && c.to == who:
			return fee
		case c.who != who:
			return nil
		case c.kind == hold:
			return minus(plus(fee, deposit))
		case c.kind == free:
			return plus(fee, deposit)
		case c.kind == pay:
			return deposit
		}
		return nil
	})
}

// fees is the fees that are held back for somebody.
func (m model) fees(who int) *big.Int {
	return m.held(who, func(fee, _ *big.Int) *big.Int { return fee })
}

// deposits is the deposits that are held back for somebody.
func (m model) deposits(who int) *big.Int {
	return m.held(who, func(_, deposit *big.Int) *big.Int { return deposit })
}

// held is how much of one part is held back for somebody.
func (m model) held(who int, part func(fee, deposit *big.Int) *big.Int) *big.Int {
	return m.sum(0, func(c call, fee, deposit *big.Int) *big.Int {
		switch {
		case c.who != who || c.kind > slash:
			return nil
		case c.kind == hold:
			return part(fee, deposit)
		}
		return minus(part(fee, deposit))
	})
}

// treasury is what was taken from everybody.
func (m model) treasury() *big.Int {
	return m.sum(0, func(c call, fee, deposit *big.Int) *big.Int {
		switch c.kind {
		case pay:
			return fee
		case slash:
			return plus(fee, deposit)
		}
		return nil
	})
}

// nonce is how many turns somebody has had.
func (m model) nonce(who int) uint64 {
	turns := uint64(0)
	for _, c := range m.past {
		if c.kind == turn && c.who == who {
			turns++
		}
	}
	return turns
}

// want is the error that a call is to return.
func (m model) want(c call) api.Errno {
	there := func(who int) bool { return who >= 0 && who < len(m.balances) }
	if !there(c.who) || c.kind == move && !there(c.to) {
		return api.ErrArg
	}
	fee, deposit := whole(c.number), whole(50)
	short := false
	switch c.kind {
	case hold:
		short = m.balance(c.who).Cmp(plus(fee, deposit)) < 0
	case free, pay, slash:
		short = m.fees(c.who).Cmp(fee) < 0 || m.deposits(c.who).Cmp(deposit) < 0
	case move:
		short = m.balance(c.who).Cmp(fee) < 0
	case turn:
		if m.nonce(c.who) != c.number {
			return api.ErrNonce
		}
	}
	if short {
		return api.ErrFunds
	}
	return api.OK
}

// after is the model after a call.
func (m model) after(c call) model {
	if m.want(c) != api.OK {
		return m
	}
	return model{balances: m.balances, past: append(slices.Clone(m.past), c)}
}

// checkAmount takes this amount alone.
func checkAmount(t *testing.T, what string, got uint64, want *big.Int) {
	t.Helper()
	if whole(got).Cmp(want) != 0 {
		t.Errorf("%s: %d, not %d", what, got, want)
	}
}

// checkLedger takes what a ledger is to be alone, from each of its methods.
func checkLedger(t *testing.T, l *ledger.Ledger, m model) {
	t.Helper()
	fees, deposits, total := whole(0), whole(0), whole(0)
	for who, began := range m.balances {
		checkAmount(t, "Balance", l.Balance(who), m.balance(who))
		checkAmount(t, "Nonce", l.Nonce(who), whole(m.nonce(who)))
		fees, deposits, total = plus(fees, m.fees(who)), plus(deposits, m.deposits(who)), plus(total, whole(began))
	}
	for _, who := range []int{-1, len(m.balances)} {
		checkAmount(t, "Balance of nobody", l.Balance(who), whole(0))
		checkAmount(t, "Nonce of nobody", l.Nonce(who), whole(0))
	}
	checkAmount(t, "Fees", l.Fees(), fees)
	checkAmount(t, "Deposits", l.Deposits(), deposits)
	checkAmount(t, "Treasury", l.Treasury(), m.treasury())
	checkAmount(t, "Total", l.Total(), total)
	if l.Total() > api.MaxMoney {
		t.Errorf("Total: %d, above MaxMoney", l.Total())
	}
}

// checkHeld takes a ledger that holds back for each account what the model does, by giving it all back.
func checkHeld(t *testing.T, l *ledger.Ledger, m model) {
	t.Helper()
	for who := range m.balances {
		fees, count := m.fees(who).Uint64(), m.deposits(who).Uint64()/50
		c := l.Copy()
		if count == 0 {
			checkCall(t, c, m, call{kind: free, who: who})
			continue
		}
		checkCall(t, c, m, call{kind: free, who: who, number: fees + 1})
		for range count - 1 {
			if e := c.Free(who, 0); e != api.OK {
				t.Errorf("Free of one of %d deposits: error %d", count, e)
			}
		}
		if c.Free(who, fees) != api.OK || c.Free(who, 0) != api.ErrFunds {
			t.Errorf("%d deposits and the fees %d are not what is held back for %d", count, fees, who)
		}
		checkAmount(t, "Balance with all that was held back", c.Balance(who), plus(m.balance(who), whole(fees+50*count)))
	}
}

// checkCall makes a call, takes its right error alone and, behind it, its right result, and returns the model of it.
func checkCall(t *testing.T, l *ledger.Ledger, m model, c call) model {
	t.Helper()
	want := m.want(c)
	if got := do(l, c); got != want {
		t.Errorf("%s %+v after %+v of %d: error %d, not %d", names[c.kind], c, m.past, m.balances, got, want)
	}
	m = m.after(c)
	checkLedger(t, l, m)
	return m
}

// begin is a ledger with these balances, and its model.
func begin(t *testing.T, balances ...uint64) (*ledger.Ledger, model) {
	t.Helper()
	l, e := ledger.New(balances...)
	if e != api.OK || l == nil {
		t.Fatalf("New(%d): error %d", balances, e)
	}
	m := model{balances: slices.Clone(balances)}
	checkLedger(t, l, m)
	return l, m
}

// checkCalls makes calls one after the other on a ledger with these balances.
func checkCalls(t *testing.T, balances []uint64, calls ...call) (*ledger.Ledger, model) {
	t.Helper()
	l, m := begin(t, balances...)
	for _, c := range calls {
		m = checkCall(t, l, m, c)
		checkHeld(t, l, m)
	}
	return l, m
}

// checkRefused takes balances that make no ledger alone.
func checkRefused(t *testing.T, balances []uint64, want api.Errno) {
	t.Helper()
	if l, e := ledger.New(balances...); l != nil || e != want {
		t.Errorf("New(%d): %v, error %d, not %d", balances, l, e, want)
	}
}

// several is amounts at, just below and just above some, and some at both ends.
func several(amounts ...uint64) []uint64 {
	all := []uint64{0, 1, 49, 50, 51, 1 << 32, 1 << 60, 1 << 63, greatest - 50, greatest - 49, greatest - 1, greatest}
	for _, n := range amounts {
		all = append(all, n-51, n-50, n-49, n-1, n, n+1, n+49, n+50, n+51)
	}
	slices.Sort(all)
	return slices.Compact(all)
}

// P13.1: from one balance to Accounts of them.
func TestNew(t *testing.T) {
	balances := []uint64{7, 0, 1 << 59, 50, greatest >> 10, 3}
	if len(balances) != api.Accounts {
		t.Fatalf("%d balances", len(balances))
	}
	for many := 1; many <= api.Accounts; many++ {
		l, m := begin(t, balances[:many]...)
		checkHeld(t, l, m)
		begin(t, make([]uint64, many)...)
	}
}

// P13.1: no balances, and more than Accounts, whatever they are.
func TestNewOfOtherNumbers(t *testing.T) {
	checkRefused(t, nil, api.ErrArg)
	checkRefused(t, []uint64{}, api.ErrArg)
	for many := api.Accounts + 1; many < 40; many++ {
		checkRefused(t, make([]uint64, many), api.ErrArg)
		checkRefused(t, slices.Repeat([]uint64{1}, many), api.ErrArg)
		checkRefused(t, slices.Repeat([]uint64{greatest}, many), api.ErrArg)
	}
}

// P13.1: sums around MaxMoney, and far above it, so that they are small modulo 2^64.
func TestNewSums(t *testing.T) {
	const most = api.MaxMoney
	for _, balances := range [][]uint64{
		{most}, {most - 1}, {most + 1}, {1 << 61}, {1 << 63}, {greatest},
		{most, 0}, {0, most}, {most - 1, 0}, {most - 1, 1}, {1, most - 1}, {most, 1}, {1, most}, {most - 1, 2}, {most + 1, 0}, {0, most + 1},
		{most / 2, most / 2}, {most / 2, most/2 - 1}, {most / 2, most/2 + 1}, {most, most},
		{0, 0, 0, 0, 0, most}, {1, 1, 1, 1, 1, most - 5}, {1, 1, 1, 1, 1, most - 6}, {1, 1, 1, 1, 1, most - 4}, {most, 0, 0, 0, 0, 1},
		{greatest, 1}, {1, greatest}, {greatest, 2}, {5, greatest - 3}, {1 << 63, 1 << 63}, {1 << 63, 1 << 63, 7},
		{1 << 62, 1 << 62, 1 << 62, 1 << 62}, {1 << 62, 1 << 62, 1 << 62, 1 << 62, 9}, {greatest, greatest, 2}, {100, greatest, 1, 50},
		{greatest, most, 1}, {most, most, most, most, most, most}, {greatest - most + 1, most}, {greatest, greatest, greatest, greatest, greatest, 5},
	} {
		sum := whole(0)
		for _, balance := range balances {
			sum = plus(sum, whole(balance))
		}
		if sum.Cmp(whole(most)) > 0 {
			checkRefused(t, balances, api.ErrOver)
		} else {
			begin(t, balances...)
		}
	}
}

// P13.1 and P13.4: accounts that do not exist, whatever else is wrong with a call.
func TestNoSuchAccount(t *testing.T) {
	for many := 1; many <= api.Accounts; many++ {
		balances := slices.Repeat([]uint64{1000}, many)
		calls := []call{}
		for who := range many {
			calls = append(calls, call{kind: hold, who: who, number: 10}, call{kind: turn, who: who})
		}
		l, m := checkCalls(t, balances, calls...)
		for _, who := range []int{-1, -2, -many, many, many + 1, 2 * many, api.Accounts, api.Accounts + 1, 1 << 32, math.MinInt, math.MaxInt} {
			if who >= 0 && who < many {
				continue
			}
			if l.Balance(who) != 0 || l.Nonce(who) != 0 {
				t.Errorf("account %d of %d has the balance %d and the nonce %d", who, many, l.Balance(who), l.Nonce(who))
			}
			for _, number := range []uint64{0, 1, 10, 2000, greatest} {
				for _, kind := range kinds {
					checkCall(t, l, m, call{kind: kind, who: who, to: 0, number: number})
				}
				for _, c := range []call{{move, 0, who, number}, {move, many - 1, who, number}, {move, who, who, number}, {move, who, -1, number}, {move, -1, who, number}} {
					if e := do(l, c); e != api.ErrArg {
						t.Errorf("Move from %d to %d: error %d", c.who, c.to, e)
					}
				}
			}
		}
		checkLedger(t, l, m)
		checkHeld(t, l, m)
	}
}

// P13.1: the last account is as good as the first.
func TestLastAccount(t *testing.T) {
	for many := 1; many <= api.Accounts; many++ {
		balances := make([]uint64, many)
		balances[many-1] = 1000
		last := many - 1
		checkCalls(t, balances,
			call{kind: hold, who: last, number: 10}, call{kind: hold, who: last, number: 20}, call{kind: hold, who: last, number: 30},
			call{kind: free, who: last, number: 10}, call{kind: pay, who: last, number: 20}, call{kind: slash, who: last, number: 30},
			call{kind: move, who: last, to: 0, number: 100}, call{kind: move, who: 0, to: last, number: 100}, call{kind: turn, who: last})
	}
}

// P13.2: a balance around fee plus a deposit, also where these are above 2^64 together.
func TestHold(t *testing.T) {
	for _, balance := range several(100, 1<<60) {
		if balance > api.MaxMoney {
			continue
		}
		for _, fee := range several(balance, balance-50) {
			l, m := checkCalls(t, []uint64{0, balance}, call{kind: hold, who: 1, number: fee})
			held := fee <= balance && balance-fee >= 50
			if held != (len(m.past) == 1) || held && (l.Fees() != fee || l.Deposits() != 50 || l.Balance(1) != balance-fee-50) {
				t.Errorf("Hold(1, %d) of %d: the balance %d, the fees %d, the deposits %d", fee, balance, l.Balance(1), l.Fees(), l.Deposits())
			}
		}
	}
}

// P13.2: a balance of one less than fee plus a deposit, of exactly that, and of one more, after it was held back in part.
func TestHoldOfTheRest(t *testing.T) {
	for _, more := range []uint64{0, 1, 2} {
		l, _ := begin(t, 170+70-1+more, 5000)
		first, second := l.Hold(0, 120), l.Hold(0, 20)
		if first != api.OK || (second == api.OK) != (more > 0) || second != api.OK && second != api.ErrFunds {
			t.Errorf("Hold: errors %d and %d with %d", first, second, more)
		}
		want := []uint64{69, 120, 50, 0, 5239}
		if more > 0 {
			want = []uint64{more - 1, 140, 100, 0, 5239 + more}
		}
		if got := []uint64{l.Balance(0), l.Fees(), l.Deposits(), l.Treasury(), l.Total()}; !slices.Equal(got, want) {
			t.Errorf("Hold of the rest: %d, not %d", got, want)
		}
	}
}

// P13.2: a fee of one less than, of exactly, and of one more than what is held back, and others.
func TestRelease(t *testing.T) {
	for _, kind := range []kind{free, pay, slash} {
		for _, held := range []uint64{0, 1, 20, 50, 1<<60 - 100} {
			for _, fee := range several(held) {
				l, m := checkCalls(t, []uint64{7, 1<<60 - 10}, call{kind: hold, who: 1, number: held}, call{kind: kind, who: 1, number: fee})
				if released := len(m.past) == 2; released != (fee <= held) {
					t.Errorf("%s of %d of %d: %v", names[kind], fee, held, released)
				}
				m = checkCall(t, l, m, call{kind: kind, who: 1, number: held})
				checkHeld(t, l, m)
			}
		}
	}
}

// P13.2: what becomes of the fee and of the deposit.
func TestReleased(t *testing.T) {
	for kind, want := range map[kind][]uint64{
		free:  {1000, 0, 0, 0},
		pay:   {980, 0, 0, 20},
		slash: {930, 0, 0, 70},
	} {
		l, _ := checkCalls(t, []uint64{1000}, call{kind: hold, number: 20}, call{kind: kind, number: 20})
		if got := []uint64{l.Balance(0), l.Fees(), l.Deposits(), l.Treasury()}; !slices.Equal(got, want) {
			t.Errorf("%s: %d, not %d", names[kind], got, want)
		}
	}
}

// P13.2: nothing is released where nothing is held back, nor what is held back for another account.
func TestReleaseOfNothing(t *testing.T) {
	for _, kind := range []kind{free, pay, slash} {
		for _, fee := range several(20, 1000) {
			checkCalls(t, []uint64{1000, 1000, 1000}, call{kind: kind, who: 1, number: fee})
			l, m := checkCalls(t, []uint64{1000, 1000, 1000}, call{kind: hold, who: 1, number: 20})
			for _, who := range []int{0, 2} {
				if e := do(l, call{kind: kind, who: who, number: fee}); e != api.ErrFunds {
					t.Errorf("%s(%d, %d): error %d", names[kind], who, fee, e)
				}
			}
			checkLedger(t, l, m)
			checkHeld(t, l, m)
		}
	}
}

// P13.2: the fees of an account are held back together, and each release takes one deposit, so that fees may be left for
// which no deposit is. They are released with a later deposit.
func TestReleaseOfSeveral(t *testing.T) {
	for _, first := range []kind{free, pay, slash} {
		for _, second := range []kind{free, pay, slash} {
			l, m := checkCalls(t, []uint64{1000, 1000},
				call{kind: hold, who: 1, number: 20}, call{kind: hold, who: 1, number: 30},
				call{kind: first, who: 1, number: 51}, call{kind: first, who: 1, number: 50},
				call{kind: second, who: 1, number: 1}, call{kind: second, who: 1}, call{kind: second, who: 1})
			if l.Fees() != 0 || l.Deposits() != 0 || len(m.past) != 4 {
				t.Errorf("%s, %s: the fees %d and the deposits %d are left", names[first], names[second], l.Fees(), l.Deposits())
			}
			l, m = checkCalls(t, []uint64{1000, 1000},
				call{kind: hold, who: 1, number: 20},
				call{kind: first, who: 1, number: 5}, call{kind: second, who: 1}, call{kind: second, who: 1, number: 15},
				call{kind: hold, who: 1, number: 3},
				call{kind: second, who: 1, number: 19}, call{kind: second, who: 1, number: 18}, call{kind: second, who: 1})
			if l.Fees() != 0 || l.Deposits() != 0 || len(m.past) != 4 {
				t.Errorf("%s, %s: the fees %d and the deposits %d are left", names[first], names[second], l.Fees(), l.Deposits())
			}
		}
	}
}

// P13.2: all that is held back for several accounts, which Fees and Deposits count together.
func TestHeldForSeveral(t *testing.T) {
	balances, calls := []uint64{}, []call{}
	for who := range api.Accounts {
		balances = append(balances, 1000+uint64(who))
		for times := range who + 1 {
			calls = append(calls, call{kind: hold, who: who, number: uint64(10*who + times)})
		}
	}
	l, _ := checkCalls(t, balances, calls...)
	if l.Fees() != 735 || l.Deposits() != 21*50 {
		t.Errorf("the fees %d, the deposits %d", l.Fees(), l.Deposits())
	}
	for i, c := range calls {
		c.kind = kinds[1+i%3]
		calls = append(calls, c)
	}
	if l, _ = checkCalls(t, balances, calls...); l.Fees() != 0 || l.Deposits() != 0 {
		t.Errorf("the fees %d, the deposits %d are left", l.Fees(), l.Deposits())
	}
}

// P13.3: amounts of one less than, of exactly, and of one more than the balance, of 0, and others, between all accounts.
func TestMove(t *testing.T) {
	for _, balance := range []uint64{0, 1, 100, 1<<60 - 9} {
		for from := range 3 {
			for to := range 3 {
				for _, amount := range several(balance) {
					balances := []uint64{2, 3, 4}
					balances[from] = balance
					l, m := checkCalls(t, balances, call{kind: move, who: from, to: to, number: amount})
					moved := len(m.past) == 1
					if moved != (amount <= balance) {
						t.Errorf("Move of %d of %d: %v", amount, balance, moved)
					}
					if moved && from != to && (l.Balance(from) != balance-amount || l.Balance(to) != balances[to]+amount) {
						t.Errorf("Move of %d of %d: %d and %d", amount, balance, l.Balance(from), l.Balance(to))
					}
					if (!moved || from == to) && (l.Balance(from) != balance || l.Balance(to) != balances[to]) {
						t.Errorf("Move of %d of %d changed a balance", amount, balance)
					}
				}
			}
		}
	}
}

// P13.3: all the money there may be is moved around.
func TestMoveAll(t *testing.T) {
	l, m := begin(t, api.MaxMoney, 0, 0, 0, 0, 0)
	for turns := range 30 {
		from, to := turns%6, (turns+1)%6
		m = checkCall(t, l, m, call{kind: move, who: from, to: to, number: api.MaxMoney})
		if l.Balance(to) != api.MaxMoney || l.Balance(from) != 0 {
			t.Errorf("Move of all: %d and %d", l.Balance(from), l.Balance(to))
		}
	}
}

// P13.3: what is held back does not move.
func TestMoveOfHeld(t *testing.T) {
	checkCalls(t, []uint64{100, 0}, call{kind: hold, number: 20},
		call{kind: move, to: 1, number: 31}, call{kind: move, to: 0, number: 31}, call{kind: move, to: 1, number: 30},
		call{kind: free, number: 20}, call{kind: move, to: 1, number: 71}, call{kind: move, to: 1, number: 70})
}

// P13.3: each account's own nonce alone.
func TestTurn(t *testing.T) {
	l, m := begin(t, 100, 0, 5)
	for turns := range uint64(30) {
		for _, who := range []int{2, 0} {
			for _, nonce := range []uint64{turns + 1, turns - 1, turns + 2, turns + 256, turns + 1<<32, turns + 1<<63, greatest - 1, greatest - turns, greatest} {
				if nonce == turns {
					continue
				}
				if e := l.Turn(who, nonce); e != api.ErrNonce || l.Nonce(who) != turns {
					t.Errorf("Turn(%d, %d) at %d: error %d, the nonce %d", who, nonce, turns, e, l.Nonce(who))
				}
			}
			m = checkCall(t, l, m, call{kind: turn, who: who, number: turns})
			if l.Nonce(who) != turns+1 || l.Nonce(1) != 0 {
				t.Errorf("Turn at %d: %d and %d", turns, l.Nonce(who), l.Nonce(1))
			}
		}
	}
}

// P13.3: many turns.
func TestManyTurns(t *testing.T) {
	l, _ := begin(t, 0)
	for turns := range uint64(100000) {
		if e := l.Turn(0, turns); e != api.OK || l.Nonce(0) != turns+1 {
			t.Fatalf("Turn(0, %d): error %d, the nonce %d", turns, e, l.Nonce(0))
		}
	}
}

// used is a ledger of which everything was used, and its model.
func used(t *testing.T) (*ledger.Ledger, model) {
	t.Helper()
	return checkCalls(t, []uint64{1000, 2000, 0},
		call{kind: hold, who: 0, number: 20}, call{kind: hold, who: 1, number: 30}, call{kind: hold, who: 0, number: 5},
		call{kind: pay, who: 0, number: 7}, call{kind: slash, who: 1, number: 11}, call{kind: hold, who: 1, number: 1},
		call{kind: move, who: 1, to: 2, number: 300}, call{kind: turn, who: 0}, call{kind: turn, who: 0, number: 1}, call{kind: turn, who: 2})
}

// anyOf is calls of each kind that the used ledger does, each one by itself.
func anyOf() []call {
	return []call{{hold, 0, 0, 100}, {hold, 2, 0, 100}, {free, 0, 0, 18}, {free, 1, 0, 1}, {pay, 0, 0, 5}, {pay, 1, 0, 20},
		{slash, 0, 0, 0}, {slash, 1, 0, 20}, {move, 0, 1, 5}, {move, 2, 0, 300}, {turn, 0, 0, 2}, {turn, 1, 0, 0}}
}

// P13.4: a copy is the same, and neither it nor the ledger changes with the other.
func TestCopy(t *testing.T) {
	for _, first := range anyOf() {
		l, m := used(t)
		c := l.Copy()
		checkLedger(t, c, m)
		checkHeld(t, c, m)
		changed := checkCall(t, c, m, first)
		if len(changed.past) != len(m.past)+1 {
			t.Errorf("%s %+v is refused", names[first.kind], first)
		}
		checkLedger(t, l, m)
		checkHeld(t, l, m)
		for _, second := range anyOf() {
			other := checkCall(t, l, m, second)
			checkHeld(t, l, other)
			checkLedger(t, c, changed)
			checkHeld(t, c, changed)
			l, _ = used(t)
			c = l.Copy()
			do(c, first)
		}
	}
}

// P13.4: copies of new ledgers, of which nothing was held back yet, and copies of copies.
func TestCopyOfNew(t *testing.T) {
	l, m := begin(t, 100, 200)
	c := l.Copy()
	d := c.Copy()
	changed := checkCall(t, c, m, call{kind: hold, who: 1, number: 20})
	other := checkCall(t, d, m, call{kind: hold, who: 0, number: 30})
	checkHeld(t, l, m)
	checkHeld(t, c, changed)
	checkHeld(t, d, other)
	checkHeld(t, c.Copy().Copy(), changed)
	checkLedger(t, l, m)
}

// P13.5: a nil ledger, for which nothing else is wrong first.
func TestNilLedger(t *testing.T) {
	var l *ledger.Ledger
	for _, who := range []int{0, 1, -1, 5, 6, math.MinInt, math.MaxInt} {
		for _, number := range []uint64{0, 1, 50, greatest} {
			for _, kind := range kinds {
				for _, to := range []int{0, 1, -1} {
					if e := do(l, call{kind, who, to, number}); e != api.ErrArg {
						t.Errorf("%s of a nil ledger: error %d", names[kind], e)
					}
				}
			}
		}
		if l.Balance(who) != 0 || l.Nonce(who) != 0 {
			t.Errorf("a nil ledger has the balance %d and the nonce %d", l.Balance(who), l.Nonce(who))
		}
	}
	if l.Fees() != 0 || l.Deposits() != 0 || l.Treasury() != 0 || l.Total() != 0 || l.Copy() != nil {
		t.Error("a nil ledger has something")
	}
}

// R1: a ledger that New did not make has no account.
func TestZeroLedger(t *testing.T) {
	l := &ledger.Ledger{}
	for _, kind := range kinds {
		if e := do(l, call{kind: kind}); e != api.ErrArg {
			t.Errorf("%s of a zero ledger: error %d", names[kind], e)
		}
	}
	checkLedger(t, l, model{})
	checkLedger(t, l.Copy(), model{})
}

// P13.2: the example of the chapter.
func TestExample(t *testing.T) {
	l, _ := ledger.New(100)
	if e := l.Hold(0, 20); e != api.OK || l.Balance(0) != 30 || l.Fees() != 20 || l.Deposits() != 50 || l.Treasury() != 0 {
		t.Errorf("Hold: error %d, %d, %d, %d", e, l.Balance(0), l.Fees(), l.Deposits())
	}
	if e := l.Pay(0, 20); e != api.OK || l.Balance(0) != 80 || l.Fees() != 0 || l.Deposits() != 0 || l.Treasury() != 20 {
		t.Errorf("Pay: error %d, %d, %d", e, l.Balance(0), l.Treasury())
	}
}

// P13.1 to P13.5: all sequences of four calls with few amounts, on copies of what came before.
func TestAllCalls(t *testing.T) {
	calls := []call{{move, 0, 1, 60}, {move, 1, 0, 1}, {move, 1, 1, 60}, {turn, 0, 0, 0}, {turn, 0, 0, 1}}
	for who := range 2 {
		for _, fee := range []uint64{0, 9} {
			calls = append(calls, call{hold, who, 0, fee}, call{free, who, 0, fee}, call{pay, who, 0, fee}, call{slash, who, 0, fee})
		}
	}
	var goOn func(l *ledger.Ledger, m model, left int)
	goOn = func(l *ledger.Ledger, m model, left int) {
		for _, c := range calls {
			if left == 0 || t.Failed() {
				return
			}
			next := l.Copy()
			goOn(next, checkCall(t, next, m, c), left-1)
		}
	}
	l, m := begin(t, 118, 59)
	goOn(l, m, 4)
	checkLedger(t, l, m)
}

// anyNumber is a number at random, of which many are about those of the model.
func anyNumber(r *rand.Rand, m model, c call) uint64 {
	if c.who < 0 || c.who >= len(m.balances) {
		return r.Uint64()
	}
	near := []uint64{0, m.balance(c.who).Uint64(), m.balance(c.who).Uint64() - 50, m.fees(c.who).Uint64(), m.nonce(c.who), r.Uint64N(30), r.Uint64()}
	if c.kind == turn {
		near = near[4:5]
	}
	return near[r.IntN(len(near))] + r.Uint64N(3)/2 - r.Uint64N(3)/2
}

// P13.1 to P13.5: calls in any order, of which most are done.
func TestAnyCalls(t *testing.T) {
	r := random()
	done := make([]int, len(kinds))
	for range 400 {
		balances := make([]uint64, 1+r.IntN(api.Accounts))
		for who := range balances {
			balances[who] = r.Uint64N(1 << (1 + r.IntN(57)))
		}
		l, m := begin(t, balances...)
		for range 50 {
			many := len(balances)
			c := call{kind: kinds[r.IntN(len(kinds))], who: r.IntN(many), to: r.IntN(many)}
			if r.IntN(20) == 0 {
				c.who, c.to = r.IntN(many+2)-1, r.IntN(many+2)-1
			}
			c.number = anyNumber(r, m, c)
			before := len(m.past)
			m = checkCall(t, l, m, c)
			done[c.kind] += len(m.past) - before
		}
		checkHeld(t, l, m)
	}
	for kind, times := range done {
		if times < 100 {
			t.Errorf("%s was done %d times", names[kind], times)
		}
	}
}

// P13.1 and R3: New does not change the balances, and the ledger does not change with them; the memory beyond their length
// is neither read nor written.
func TestArguments(t *testing.T) {
	for many := 1; many <= api.Accounts; many++ {
		all := []uint64{100, 200, 300, 400, 500, 600, greatest, greatest, greatest}
		before := slices.Clone(all)
		balances := all[:many]
		l, m := begin(t, balances...)
		for who := range many {
			m = checkCall(t, l, m, call{kind: hold, who: who, number: 10})
			m = checkCall(t, l, m, call{kind: move, who: who, to: 0, number: 3})
			m = checkCall(t, l, m, call{kind: slash, who: who, number: 10})
		}
		c := l.Copy()
		if !slices.Equal(all, before) {
			t.Errorf("the balances %d became %d", before, all)
		}
		for i := range all {
			all[i] = 77
		}
		checkLedger(t, l, m)
		checkLedger(t, c, m)
	}
	all := []uint64{greatest, greatest}
	checkRefused(t, all[:0], api.ErrArg)
	checkRefused(t, all[:1], api.ErrOver)
	if !slices.Equal(all, []uint64{greatest, greatest}) {
		t.Errorf("the balances became %d", all)
	}
}

// R6: ledgers with the same balances go their own ways, and the same calls have the same results.
func TestOtherLedgers(t *testing.T) {
	balances := []uint64{1000, 2000, 0}
	other, otherModel := begin(t, balances...)
	for range 100 {
		l, m := used(t)
		checkLedger(t, l, m)
		checkHeld(t, l, m)
	}
	checkLedger(t, other, otherModel)
	checkHeld(t, other, otherModel)
}
