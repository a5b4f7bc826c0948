package tx_test

import (
	"bytes"
	"math"
	"math/rand/v2"
	"slices"
	"testing"

	"shroud/api"
	"shroud/ledger"
	"shroud/tx"
)

// greatest is the greatest amount that can be passed.
const greatest = math.MaxUint64

// The kinds have these numbers, and no type of their own.
const (
	_ uint8   = tx.Pay - 1
	_ uint8   = 1 - tx.Pay
	_ float64 = tx.Note
	_ uint8   = tx.Note - 2
	_ uint8   = 2 - tx.Note
)

// random is a source with a fixed seed, so that each run tests the same.
func random() *rand.Rand { return rand.New(rand.NewPCG(14, 300)) }

// anyBytes are bytes at random.
func anyBytes(r *rand.Rand, many int) []byte {
	b := make([]byte, many)
	for i := range b {
		b[i] = byte(r.Uint32())
	}
	return b
}

// someKinds are all kinds that there are, those beside them, and some that are like them in their lowest bits.
func someKinds() []int {
	return []int{math.MinInt, math.MinInt + 1, math.MinInt + 2, -255, -254, -2, -1, 0, 1, 2, 3, 4, 127, 128, 257, 258, 1<<32 + 1, 1<<32 + 2, math.MaxInt}
}

// someTos are all accounts that may be, and some others.
func someTos() []int {
	return []int{math.MinInt, -256, -6, -2, -1, 0, 1, 2, 3, 4, api.Accounts - 1, api.Accounts, api.Accounts + 1, 127, 128, 256, 1 << 32, math.MaxInt}
}

// someAmounts are amounts of each length of an encoding, and those at the bounds of integers and of money.
func someAmounts() []uint64 {
	all := []uint64{0, 1, 2, 300, api.MaxMoney - 1, api.MaxMoney, api.MaxMoney + 1, 1 << 32, 1<<63 - 1, 1 << 63, greatest - 1, greatest}
	for bits := 7; bits < 64; bits += 7 {
		all = append(all, 1<<bits-1, 1<<bits)
	}
	return all
}

// someMemos are memos of each length that may be, and longer ones.
func someMemos() [][]byte {
	all := [][]byte{nil, {}}
	r := random()
	for many := 1; many <= 18; many++ {
		all = append(all, anyBytes(r, many))
	}
	for _, many := range []int{32, 127, 128, 256, 256 + 16, 1000} {
		all = append(all, anyBytes(r, many))
	}
	return append(all, make([]byte, 16), bytes.Repeat([]byte{255}, 16))
}

// some are all transactions of these values, whether there may be such ones or not.
func some() []tx.Tx {
	all := []tx.Tx{}
	for _, kind := range someKinds() {
		for _, to := range someTos() {
			for _, amount := range someAmounts() {
				for _, memo := range [][]byte{nil, {0}, []byte("to you, in June!"), []byte("to you, in July!!")} {
					all = append(all, tx.Tx{Kind: kind, To: to, Amount: amount, Memo: memo})
				}
			}
		}
	}
	for _, memo := range someMemos() {
		for kind := -1; kind <= 3; kind++ {
			for to := -1; to <= api.Accounts; to++ {
				all = append(all, tx.Tx{Kind: kind, To: to, Memo: memo}, tx.Tx{Kind: kind, To: to, Amount: 300, Memo: memo})
			}
		}
	}
	return all
}

// mayBe tells whether there may be such a transaction.
func mayBe(x tx.Tx) bool {
	pay := x.Kind == 1 && x.To > -1 && x.To < 6
	note := x.Kind == 2 && x.To == 0 && x.Amount == 0
	return (pay || note) && len(x.Memo) < 17
}

// same tells whether two transactions have the same values.
func same(x, y tx.Tx) bool {
	return x.Kind == y.Kind && x.To == y.To && x.Amount == y.Amount && bytes.Equal(x.Memo, y.Memo)
}

// slowNumber is the encoding of a number: its digits to the base 128, the lowest one first, as few as it takes.
func slowNumber(n uint64) []byte {
	if n < 128 {
		return []byte{byte(n)}
	}
	return append([]byte{byte(n%128) + 128}, slowNumber(n/128)...)
}

// slow is the encoding of any values, whether there may be such a transaction or not.
func slow(kind, to, amount uint64, memo []byte) []byte {
	return slices.Concat(slowNumber(kind), slowNumber(to), slowNumber(amount), slowNumber(uint64(len(memo))), memo)
}

// slowEncode is the encoding of a transaction that may be.
func slowEncode(x tx.Tx) []byte { return slow(uint64(x.Kind), uint64(x.To), x.Amount, x.Memo) }

// slowReader takes values from bytes, one after the other, up to the first error.
type slowReader struct {
	left []byte
	e    api.Errno
}

// number takes a number, which may be up to the most.
func (r *slowReader) number(most uint64) uint64 {
	if r.e != api.OK {
		return 0
	}
	last := slices.IndexFunc(r.left, func(b byte) bool { return b < 128 })
	n := uint64(0)
	switch {
	case len(r.left) > 9 && (last < 0 || last > 8) && r.left[9] > 1:
		r.e = api.ErrKind
	case last < 0:
		r.e = api.ErrShort
	case last > 0 && r.left[last] == 0:
		r.e = api.ErrKind
	default:
		for _, digit := range slices.Backward(r.left[:last+1]) {
			n = n*128 + uint64(digit%128)
		}
	}
	if r.e == api.OK && n > most {
		r.e = api.ErrOver
	}
	r.left = r.left[last+1:]
	return n
}

// text takes a byte string, which may be up to the longest.
func (r *slowReader) text(longest uint64) []byte {
	many := r.number(longest)
	if r.e == api.OK && many > uint64(len(r.left)) {
		r.e = api.ErrShort
	}
	if r.e != api.OK {
		return nil
	}
	text := r.left[:many]
	r.left = r.left[many:]
	return text
}

// slowDecode is what Decode is to return.
func slowDecode(b []byte) (tx.Tx, api.Errno) {
	r := &slowReader{left: b}
	kind, to, amount, memo := r.number(2), r.number(5), r.number(greatest), r.text(16)
	x := tx.Tx{Kind: int(kind), To: int(to), Amount: amount, Memo: memo}
	switch {
	case r.e != api.OK:
		return tx.Tx{}, r.e
	case len(r.left) > 0:
		return tx.Tx{}, api.ErrTail
	case !mayBe(x):
		return tx.Tx{}, api.ErrKind
	}
	return x, api.OK
}

// checkEncode takes the right result of Encode alone and, if there is an encoding, a Decode that inverts it.
func checkEncode(t *testing.T, x tx.Tx) {
	t.Helper()
	b, e := tx.Encode(x)
	if !mayBe(x) {
		if len(b) > 0 || e != api.ErrArg {
			t.Errorf("Encode(%v): %x, error %d", x, b, e)
		}
		return
	}
	if !bytes.Equal(b, slowEncode(x)) || e != api.OK {
		t.Errorf("Encode(%v): %x, error %d, not %x", x, b, e, slowEncode(x))
	}
	if y, e := tx.Decode(b); !same(x, y) || e != api.OK {
		t.Errorf("Decode(%x): %v, error %d, not %v", b, y, e, x)
	}
}

// checkDecode takes the right result of Decode alone and, if there is a transaction, an Encode that inverts it. It returns
// the error.
func checkDecode(t *testing.T, b []byte) api.Errno {
	t.Helper()
	want, wantError := slowDecode(b)
	x, e := tx.Decode(b)
	if !same(x, want) || e != wantError {
		t.Errorf("Decode(%x): %v, error %d, not %v, error %d", b, x, e, want, wantError)
	}
	if e != api.OK {
		return e
	}
	if again, e := tx.Encode(x); !bytes.Equal(again, b) || e != api.OK {
		t.Errorf("Encode(%v): %x, error %d, not %x", x, again, e, b)
	}
	return e
}

// P14.1: the example of the chapter.
func TestExample(t *testing.T) {
	b, e := tx.Encode(tx.Tx{Kind: tx.Pay, To: 2, Amount: 300})
	if !bytes.Equal(b, []byte{0x01, 0x02, 0xac, 0x02, 0x00}) || e != api.OK {
		t.Errorf("Encode: %x, error %d", b, e)
	}
	x, e := tx.Decode([]byte{0x01, 0x02, 0xac, 0x02, 0x00})
	if x.Kind != 1 || x.To != 2 || x.Amount != 300 || len(x.Memo) != 0 || e != api.OK {
		t.Errorf("Decode: %v, error %d", x, e)
	}
}

// P14.1: encodings that are written out here.
func TestEncode(t *testing.T) {
	memo := []byte("sixteen bytes ok")
	for _, c := range []struct {
		x    tx.Tx
		want []byte
	}{
		{tx.Tx{Kind: 1}, []byte{1, 0, 0, 0}},
		{tx.Tx{Kind: 2}, []byte{2, 0, 0, 0}},
		{tx.Tx{Kind: 1, To: 5}, []byte{1, 5, 0, 0}},
		{tx.Tx{Kind: 1, To: 4, Amount: 127}, []byte{1, 4, 127, 0}},
		{tx.Tx{Kind: 1, To: 3, Amount: 128, Memo: []byte{}}, []byte{1, 3, 0x80, 1, 0}},
		{tx.Tx{Kind: 1, Memo: []byte{7}}, []byte{1, 0, 0, 1, 7}},
		{tx.Tx{Kind: 2, Memo: []byte{0}}, []byte{2, 0, 0, 1, 0}},
		{tx.Tx{Kind: 2, Memo: memo}, append([]byte{2, 0, 0, 16}, memo...)},
		{tx.Tx{Kind: 1, To: 1, Amount: greatest, Memo: memo}, append([]byte{1, 1, 255, 255, 255, 255, 255, 255, 255, 255, 255, 1, 16}, memo...)},
	} {
		if b, e := tx.Encode(c.x); !bytes.Equal(b, c.want) || e != api.OK {
			t.Errorf("Encode(%v): %x, error %d, not %x", c.x, b, e, c.want)
		}
		checkEncode(t, c.x)
	}
}

// P14.1: no encoding, for each reason alone.
func TestEncodeOfInvalid(t *testing.T) {
	for _, x := range []tx.Tx{
		{}, {Kind: -1}, {Kind: 3}, {Kind: -2}, {Kind: 257}, {Kind: math.MaxInt}, {Kind: math.MinInt},
		{Kind: 1, To: -1}, {Kind: 1, To: 6}, {Kind: 1, To: 256}, {Kind: 1, To: math.MaxInt}, {Kind: 1, To: math.MinInt},
		{Kind: 2, To: 1}, {Kind: 2, To: -1}, {Kind: 2, To: 5}, {Kind: 2, Amount: 1}, {Kind: 2, Amount: greatest},
		{Kind: 1, Memo: make([]byte, 17)}, {Kind: 2, Memo: make([]byte, 17)}, {Kind: 1, Memo: make([]byte, 1<<24)},
	} {
		if b, e := tx.Encode(x); len(b) > 0 || e != api.ErrArg {
			t.Errorf("Encode of Kind %d, To %d, Amount %d, %d bytes: %x, error %d", x.Kind, x.To, x.Amount, len(x.Memo), b, e)
		}
	}
}

// P14.1 and P14.3: all values with each other.
func TestEncodeOfAll(t *testing.T) {
	valid := 0
	for _, x := range some() {
		checkEncode(t, x)
		if mayBe(x) {
			valid++
		}
	}
	if valid < 500 {
		t.Errorf("only %d transactions are valid", valid)
	}
}

// P14.3: Decode inverts Encode for each byte at each place of a memo, too.
func TestInverse(t *testing.T) {
	for many := 1; many <= 16; many++ {
		for at := range many {
			for value := range 256 {
				memo := bytes.Repeat([]byte{99}, many)
				memo[at] = byte(value)
				checkEncode(t, tx.Tx{Kind: tx.Note, Memo: memo})
			}
		}
	}
	r := random()
	for range 20000 {
		amount := r.Uint64() >> r.IntN(64)
		checkEncode(t, tx.Tx{Kind: tx.Pay, To: r.IntN(6), Amount: amount, Memo: anyBytes(r, r.IntN(17))})
	}
}

// P14.1: errors of Decode that are written out here. Where several apply, that of decoding comes first, and ErrTail is one.
func TestDecodeErrors(t *testing.T) {
	for _, c := range []struct {
		b    []byte
		want api.Errno
	}{
		{nil, api.ErrShort}, {[]byte{}, api.ErrShort}, {[]byte{1}, api.ErrShort}, {[]byte{1, 2}, api.ErrShort}, {[]byte{1, 2, 0}, api.ErrShort},
		{[]byte{1, 2, 0x80}, api.ErrShort}, {[]byte{1, 2, 0, 1}, api.ErrShort}, {[]byte{1, 2, 0, 16, 1, 2, 3}, api.ErrShort},
		{[]byte{1, 2, 0, 0, 0}, api.ErrTail}, {[]byte{2, 0, 0, 0, 0}, api.ErrTail}, {[]byte{1, 2, 0, 1, 9, 9}, api.ErrTail},
		{[]byte{0x81, 0, 2, 0, 0}, api.ErrKind}, {[]byte{1, 0x82, 0, 0, 0}, api.ErrKind}, {[]byte{1, 2, 0x80, 0, 0}, api.ErrKind}, {[]byte{1, 2, 0, 0x80, 0}, api.ErrKind},
		{[]byte{3, 0, 0, 0}, api.ErrOver}, {[]byte{127, 0, 0, 0}, api.ErrOver}, {[]byte{0x81, 2, 0, 0, 0}, api.ErrOver},
		{[]byte{1, 6, 0, 0}, api.ErrOver}, {[]byte{1, 0x80, 2, 0, 0}, api.ErrOver}, {[]byte{2, 6, 0, 0}, api.ErrOver},
		{append([]byte{1, 2, 0, 17}, make([]byte, 17)...), api.ErrOver}, {[]byte{1, 2, 0, 17}, api.ErrOver},
		{[]byte{0, 0, 0, 0}, api.ErrKind}, {[]byte{0, 5, 7, 0}, api.ErrKind}, {[]byte{2, 1, 0, 0}, api.ErrKind}, {[]byte{2, 5, 0, 0}, api.ErrKind}, {[]byte{2, 0, 1, 0}, api.ErrKind},
		{[]byte{0}, api.ErrShort}, {[]byte{0, 0, 0}, api.ErrShort}, {[]byte{2, 1}, api.ErrShort}, {[]byte{2, 0, 1}, api.ErrShort}, {[]byte{2, 1, 1, 2, 0}, api.ErrShort},
		{[]byte{0, 6, 0, 0}, api.ErrOver}, {[]byte{0, 0, 0, 17}, api.ErrOver}, {[]byte{2, 0, 1, 17}, api.ErrOver}, {[]byte{3}, api.ErrOver}, {[]byte{3, 6, 0x80, 0}, api.ErrOver},
		{[]byte{0, 0, 0, 0, 0}, api.ErrTail}, {[]byte{2, 1, 0, 0, 0}, api.ErrTail}, {[]byte{2, 0, 1, 0, 0}, api.ErrTail}, {[]byte{0x83, 0}, api.ErrKind}, {[]byte{1, 0x86, 0}, api.ErrKind},
	} {
		if x, e := tx.Decode(c.b); !same(x, tx.Tx{}) || e != c.want {
			t.Errorf("Decode(%x): %v, error %d, not %d", c.b, x, e, c.want)
		}
		checkDecode(t, c.b)
	}
}

// P14.1: each bound of a value, from both sides.
func TestDecodeBounds(t *testing.T) {
	for kind := range uint64(5) {
		for to := range uint64(8) {
			for _, amount := range someAmounts() {
				for _, memo := range someMemos() {
					checkDecode(t, slow(kind, to, amount, memo))
				}
			}
		}
	}
	for _, large := range someAmounts() {
		checkDecode(t, slow(large, 0, 0, nil))
		checkDecode(t, slow(1, large, 0, nil))
		checkDecode(t, slices.Concat([]byte{1, 2, 3}, slowNumber(large)))
		checkDecode(t, slices.Concat([]byte{1, 2, 3}, slowNumber(large), make([]byte, 400)))
	}
}

// encodings are several transactions that may be, as bytes.
func encodings() [][]byte {
	all := [][]byte{}
	for _, memo := range someMemos() {
		if len(memo) > 16 {
			continue
		}
		all = append(all, slow(2, 0, 0, memo))
		for _, amount := range someAmounts() {
			all = append(all, slow(1, 5, amount, memo))
		}
	}
	return all
}

// P14.1: each beginning of an encoding, and each byte behind one.
func TestDecodeOfParts(t *testing.T) {
	for _, b := range encodings() {
		if e := checkDecode(t, b); e != api.OK {
			t.Errorf("Decode(%x): error %d", b, e)
		}
		for end := range b {
			if e := checkDecode(t, b[:end]); e != api.ErrShort {
				t.Errorf("Decode(%x) of %x: error %d", b[:end], b, e)
			}
		}
		for more := range 256 {
			if e := checkDecode(t, slices.Concat(b, []byte{byte(more)})); e != api.ErrTail {
				t.Errorf("Decode(%x) with %x behind it: error %d", b, more, e)
			}
		}
		checkDecode(t, slices.Concat(b, b))
	}
}

// P14.1: a number that is not encoded in as few bytes as possible, or is above 2^64 - 1, in each of the four places.
func TestDecodeOfOtherNumbers(t *testing.T) {
	parts := [][]byte{{1}, {5}, {0xac, 2}, {2}}
	for place := range parts {
		others := [][]byte{
			{0x81, 0}, {0x80, 0}, {0x80, 0x80, 0}, {0xac, 0x82, 0}, {0xff, 0xff, 0xff, 0xff, 0xff, 0xff, 0xff, 0xff, 0xff, 2},
			{0x80, 0x80, 0x80, 0x80, 0x80, 0x80, 0x80, 0x80, 0x80, 0}, {0x81, 0x80, 0x80, 0x80, 0x80, 0x80, 0x80, 0x80, 0x80, 0x80, 0}, bytes.Repeat([]byte{0xff}, 30),
		}
		for extra := 1; extra < 8; extra++ {
			long := slices.Clone(parts[place])
			long[len(long)-1] |= 0x80
			others = append(others, slices.Concat(long, bytes.Repeat([]byte{0x80}, extra-1), []byte{0}))
		}
		for _, other := range others {
			b := slices.Concat(slices.Concat(parts[:place]...), other, slices.Concat(parts[place+1:]...), []byte("ab"))
			if e := checkDecode(t, b); e != api.ErrKind {
				t.Errorf("Decode(%x): error %d", b, e)
			}
		}
	}
}

// P14.1 and P14.3: all short byte strings of bytes that matter.
func TestDecodeOfAll(t *testing.T) {
	letters := []byte{0, 1, 2, 3, 5, 6, 16, 17, 0x7f, 0x80, 0x81, 0x82, 0xff}
	decoded := 0
	var extend func(b []byte)
	extend = func(b []byte) {
		if checkDecode(t, b) == api.OK {
			decoded++
		}
		for _, letter := range letters {
			if len(b) < 5 {
				extend(append(b, letter))
			}
		}
	}
	extend(make([]byte, 0, 5))
	if decoded < 500 {
		t.Errorf("only %d byte strings are transactions", decoded)
	}
	for first := range 256 {
		for second := range 256 {
			for _, rest := range [][]byte{nil, {0}, {0, 0}, {7, 1, 9}, {2, 0, 0}, {0, 0, 0}, {0x80, 1, 0}} {
				checkDecode(t, slices.Concat([]byte{byte(first), byte(second)}, rest))
			}
		}
	}
}

// P14.1 and P14.3: encodings of which bytes were changed, and bytes at random.
func TestDecodeOfChanged(t *testing.T) {
	r := random()
	for _, b := range encodings() {
		for at := range b {
			for _, change := range []byte{1, 2, 3, 0x7f, 0x80, 0x81, byte(r.Uint32())} {
				changed := slices.Clone(b)
				changed[at] ^= change
				checkDecode(t, changed)
			}
		}
	}
	for range 20000 {
		b := anyBytes(r, r.IntN(24))
		for i := range b {
			b[i] >>= r.IntN(8)
		}
		checkDecode(t, b)
	}
	checkDecode(t, make([]byte, 1<<20))
	checkDecode(t, bytes.Repeat([]byte{1}, 1<<20))
	checkDecode(t, bytes.Repeat([]byte{0xff}, 1<<20))
}

// begin is a ledger with these balances, fees and deposits that are held back beside them, and money in the treasury.
func begin(t *testing.T, balances ...uint64) *ledger.Ledger {
	t.Helper()
	all := slices.Clone(balances)
	for who := range all {
		all[who] += 20 + api.Deposit
	}
	all[0] += 1 + api.Deposit
	l, e := ledger.New(all...)
	errors := []api.Errno{e, l.Hold(0, 1), l.Slash(0, 1), l.Turn(0, 0)}
	for who := range all {
		errors = append(errors, l.Hold(who, 20))
	}
	if slices.Max(errors) != api.OK {
		t.Fatalf("a ledger of %d: errors %d", balances, errors)
	}
	return l
}

// amounts are all amounts of a ledger: the balances of its accounts, and what no transaction changes. That is the nonces,
// what is held back, also for each account, the treasury and the total.
func amounts(l *ledger.Ledger, many int) (balances, others []uint64) {
	others = []uint64{l.Fees(), l.Deposits(), l.Treasury(), l.Total()}
	for who := range many {
		balances = append(balances, l.Balance(who))
		others = append(others, l.Nonce(who))
		for _, fee := range []uint64{0, 20, 21} {
			others = append(others, uint64(l.Copy().Free(who, fee)))
		}
	}
	for _, who := range []int{-1, many} {
		others = append(others, l.Balance(who), l.Nonce(who))
	}
	return balances, others
}

// wanted is what Run is to return, and the balances behind it.
func wanted(balances []uint64, sender int, x tx.Tx) ([]uint64, api.Errno) {
	there := func(who int) bool { return who >= 0 && who < len(balances) }
	switch {
	case !mayBe(x) || !there(sender):
		return balances, api.ErrArg
	case x.Kind == 2:
		return balances, api.OK
	case !there(x.To):
		return balances, api.ErrArg
	case balances[sender] < x.Amount:
		return balances, api.ErrFunds
	}
	after := slices.Clone(balances)
	after[sender] -= x.Amount
	after[x.To] += x.Amount
	return after, api.OK
}

// checkRun runs a transaction, takes its right error alone and, behind it, the right amounts, and returns the error.
func checkRun(t *testing.T, l *ledger.Ledger, many, sender int, x tx.Tx) api.Errno {
	t.Helper()
	balances, others := amounts(l, many)
	want, wantError := wanted(balances, sender, x)
	e := tx.Run(l, sender, x)
	if e != wantError {
		t.Errorf("Run of %v by %d with %d: error %d, not %d", x, sender, balances, e, wantError)
	}
	after, othersAfter := amounts(l, many)
	if !slices.Equal(after, want) {
		t.Errorf("Run of %v by %d with %d: the balances %d, not %d", x, sender, balances, after, want)
	}
	if !slices.Equal(othersAfter, others) {
		t.Errorf("Run of %v by %d with %d: %d, not %d", x, sender, balances, othersAfter, others)
	}
	return e
}

// P14.2: results that are written out here, one after the other.
func TestRun(t *testing.T) {
	l, _ := ledger.New(100, 0, 7)
	for _, c := range []struct {
		sender int
		x      tx.Tx
		want   api.Errno
		then   []uint64
	}{
		{0, tx.Tx{Kind: 1, To: 1, Amount: 60}, api.OK, []uint64{40, 60, 7}},
		{0, tx.Tx{Kind: 1, To: 1, Amount: 41}, api.ErrFunds, []uint64{40, 60, 7}},
		{0, tx.Tx{Kind: 1, To: 2, Amount: 40, Memo: []byte("rent")}, api.OK, []uint64{0, 60, 47}},
		{0, tx.Tx{Kind: 1, To: 2, Amount: 0}, api.OK, []uint64{0, 60, 47}},
		{0, tx.Tx{Kind: 1, To: 2, Amount: 1}, api.ErrFunds, []uint64{0, 60, 47}},
		{2, tx.Tx{Kind: 1, To: 2, Amount: 47}, api.OK, []uint64{0, 60, 47}},
		{2, tx.Tx{Kind: 1, To: 2, Amount: 48}, api.ErrFunds, []uint64{0, 60, 47}},
		{2, tx.Tx{Kind: 1, To: 0, Amount: 46}, api.OK, []uint64{46, 60, 1}},
		{1, tx.Tx{Kind: 1, To: 3, Amount: 1}, api.ErrArg, []uint64{46, 60, 1}},
		{1, tx.Tx{Kind: 1, To: 3, Amount: 61}, api.ErrArg, []uint64{46, 60, 1}},
		{3, tx.Tx{Kind: 1, To: 1, Amount: 0}, api.ErrArg, []uint64{46, 60, 1}},
		{-1, tx.Tx{Kind: 1, To: 1, Amount: 0}, api.ErrArg, []uint64{46, 60, 1}},
		{1, tx.Tx{Kind: 2}, api.OK, []uint64{46, 60, 1}},
		{3, tx.Tx{Kind: 2}, api.ErrArg, []uint64{46, 60, 1}},
		{-1, tx.Tx{Kind: 2}, api.ErrArg, []uint64{46, 60, 1}},
		{1, tx.Tx{Kind: 1, To: 0, Amount: 1, Memo: make([]byte, 17)}, api.ErrArg, []uint64{46, 60, 1}},
		{1, tx.Tx{Kind: 0, To: 0, Amount: 1}, api.ErrArg, []uint64{46, 60, 1}},
		{1, tx.Tx{Kind: 2, To: 0, Amount: 1}, api.ErrArg, []uint64{46, 60, 1}},
		{1, tx.Tx{Kind: 2, To: 2, Amount: 0}, api.ErrArg, []uint64{46, 60, 1}},
	} {
		e := tx.Run(l, c.sender, c.x)
		if got := []uint64{l.Balance(0), l.Balance(1), l.Balance(2)}; e != c.want || !slices.Equal(got, c.then) {
			t.Errorf("Run of %v by %d: error %d, not %d, and the balances %d, not %d", c.x, c.sender, e, c.want, got, c.then)
		}
	}
}

// P14.2: a Pay of around what an account has, to each account, itself and some that are not there; what is held back
// cannot be paid.
func TestRunOfPay(t *testing.T) {
	balances := []uint64{100, 0, 1, 1 << 58, 300, 49}
	for many := 1; many <= api.Accounts; many++ {
		l := begin(t, balances[:many]...)
		for sender := range many {
			has := l.Balance(sender)
			for to := -1; to <= api.Accounts; to++ {
				for _, amount := range []uint64{0, 1, has - 1, has, has + 1, has + 20, has + 70, has + 71, api.MaxMoney, 1 << 63, greatest - has, greatest} {
					for _, memo := range [][]byte{nil, []byte("sixteen bytes ok")} {
						c := l.Copy()
						e := checkRun(t, c, many, sender, tx.Tx{Kind: tx.Pay, To: to, Amount: amount, Memo: memo})
						if (e == api.OK) != (to >= 0 && to < many && amount <= has) {
							t.Errorf("a Pay of %d by %d, who has %d, to %d of %d: error %d", amount, sender, has, to, many, e)
						}
						checkRun(t, c, many, sender, tx.Tx{Kind: tx.Pay, To: to, Amount: 1, Memo: memo})
					}
				}
			}
		}
	}
}

// P14.2: all money that there may be, to and fro.
func TestRunOfAllMoney(t *testing.T) {
	l, _ := ledger.New(api.MaxMoney, 0)
	for _, sender := range []int{0, 1, 0} {
		other := 1 - sender
		checkRun(t, l, 2, other, tx.Tx{Kind: tx.Pay, To: sender, Amount: 1})
		checkRun(t, l, 2, sender, tx.Tx{Kind: tx.Pay, To: sender, Amount: api.MaxMoney})
		checkRun(t, l, 2, sender, tx.Tx{Kind: tx.Pay, To: other, Amount: api.MaxMoney + 1})
		if e := checkRun(t, l, 2, sender, tx.Tx{Kind: tx.Pay, To: other, Amount: api.MaxMoney}); e != api.OK || l.Balance(other) != api.MaxMoney {
			t.Errorf("Run: error %d, and then %d", e, l.Balance(other))
		}
	}
}

// P14.2: a Note takes an account, with or without money, and changes nothing.
func TestRunOfNote(t *testing.T) {
	for many := 1; many <= api.Accounts; many++ {
		for _, balance := range []uint64{0, 1, 1000} {
			l := begin(t, slices.Repeat([]uint64{balance}, many)...)
			for _, memo := range [][]byte{nil, {}, {1}, make([]byte, 16)} {
				for _, sender := range []int{math.MinInt, -many, -1, 0, 1, 2, 3, 4, 5, 6, many, many + 1, 1 << 32, math.MaxInt} {
					e := checkRun(t, l, many, sender, tx.Tx{Kind: tx.Note, Memo: memo})
					if (e == api.OK) != (sender >= 0 && sender < many) {
						t.Errorf("a Note by %d of %d: error %d", sender, many, e)
					}
				}
			}
		}
	}
}

// P14.2: whatever is not valid changes nothing, also where all else would be right.
func TestRunOfInvalid(t *testing.T) {
	l := begin(t, 1<<57, 1<<57, 1<<57, 1<<57, 1<<57, 1<<57)
	for _, x := range some() {
		if mayBe(x) {
			continue
		}
		for _, sender := range []int{-1, 0, 5, 6} {
			if e := tx.Run(l, sender, x); e != api.ErrArg {
				t.Errorf("Run of %v by %d: error %d", x, sender, e)
			}
		}
	}
	fresh := begin(t, 1<<57, 1<<57, 1<<57, 1<<57, 1<<57, 1<<57)
	balances, others := amounts(l, 6)
	if want, wantOthers := amounts(fresh, 6); !slices.Equal(balances, want) || !slices.Equal(others, wantOthers) {
		t.Errorf("the ledger is %d %d, not %d %d", balances, others, want, wantOthers)
	}
}

// P14.2: all transactions of some values, on ledgers with few and with all accounts.
func TestRunOfAll(t *testing.T) {
	few, all := begin(t, 1000, 2000), begin(t, 5, 4, 3, 2, 1, 0)
	for i, x := range some() {
		if !mayBe(x) && i%10 > 0 {
			continue
		}
		for _, sender := range []int{-1, 0, 1, 2} {
			checkRun(t, few, 2, sender, x)
		}
		for _, sender := range []int{0, 5, 6} {
			checkRun(t, all, 6, sender, x)
		}
	}
}

// P14.2: many transactions one after the other.
func TestRunOfMany(t *testing.T) {
	r := random()
	l := begin(t, 500, 400, 300, 200)
	ran := 0
	for range 20000 {
		x := tx.Tx{Kind: r.IntN(5) - 1, To: r.IntN(7) - 1, Amount: r.Uint64N(800) >> r.IntN(10), Memo: anyBytes(r, r.IntN(18))}
		if checkRun(t, l, 4, r.IntN(6)-1, x) == api.OK {
			ran++
		}
	}
	if ran < 1000 {
		t.Errorf("only %d transactions ran", ran)
	}
}

// P14.2 and R1: a nil ledger, and one that New did not make, have no account.
func TestRunWithoutAccounts(t *testing.T) {
	for _, l := range []*ledger.Ledger{nil, {}} {
		for _, sender := range []int{math.MinInt, -1, 0, 1, 5, math.MaxInt} {
			for _, x := range []tx.Tx{{}, {Kind: 1}, {Kind: 2}, {Kind: 1, To: 5, Amount: greatest}, {Kind: 2, Memo: []byte("hi")}, {Kind: 3}, {Kind: 2, Memo: make([]byte, 17)}} {
				if e := checkRun(t, l, 0, sender, x); e != api.ErrArg {
					t.Errorf("Run of %v by %d: error %d", x, sender, e)
				}
			}
		}
	}
}

// R3: neither the memo and the bytes that are passed nor the memory beyond them change, and no result shares memory with
// them or with another result.
func TestMemory(t *testing.T) {
	for many := range 18 {
		for _, x := range []tx.Tx{{Kind: tx.Pay, To: 1, Amount: 3}, {Kind: tx.Note}} {
			checkMemory(t, x, many)
		}
	}
}

// checkMemory takes Encode and Run of a transaction with a memo of so many bytes alone that keep to R3.
func checkMemory(t *testing.T, x tx.Tx, many int) {
	t.Helper()
	memory := bytes.Repeat([]byte{'m'}, many+40)
	began := slices.Clone(memory)
	x.Memo = memory[:many]
	first, _ := tx.Encode(x)
	second, e := tx.Encode(x)
	l, _ := ledger.New(9, 9)
	if f := tx.Run(l, 0, x); e != f || !bytes.Equal(memory, began) {
		t.Errorf("Encode, error %d, and Run, error %d, of %v left %q of its memory", e, f, x, memory)
	}
	if e != api.OK {
		return
	}
	want := slowEncode(x)
	overwrite(first)
	if !bytes.Equal(memory, began) || !bytes.Equal(second, want) {
		t.Errorf("Encode of %v returned memory of its memo, or of another result", x)
	}
	overwrite(memory)
	if !bytes.Equal(second, want) {
		t.Errorf("Encode of Kind %d returned memory of its memo of %d bytes", x.Kind, many)
	}
}

// overwrite changes each byte of the memory of a slice, also that beyond its length.
func overwrite(b []byte) {
	b = b[:cap(b)]
	for i := range b {
		b[i] = 'x'
	}
}

// R3, for Decode.
func TestMemoryOfDecode(t *testing.T) {
	for many := range 18 {
		b := slow(1, 2, 300, bytes.Repeat([]byte{'m'}, many))
		memory := slices.Concat(b, bytes.Repeat([]byte{'y'}, 40))
		began := slices.Clone(memory)
		first, e := tx.Decode(memory[:len(b)])
		second, _ := tx.Decode(memory[:len(b)])
		if !bytes.Equal(memory, began) || (e == api.OK) != (many <= 16) {
			t.Errorf("Decode of a memo of %d bytes: error %d, and then %q", many, e, memory)
		}
		if many > 16 {
			continue
		}
		overwrite(first.Memo)
		if !bytes.Equal(memory, began) || !bytes.Equal(second.Memo, bytes.Repeat([]byte{'m'}, many)) {
			t.Errorf("Decode returned memory of its bytes, or of another result, as a memo of %d bytes", many)
		}
		overwrite(memory)
		if !bytes.Equal(second.Memo, bytes.Repeat([]byte{'m'}, many)) {
			t.Errorf("Decode returned memory of its bytes as a memo of %d bytes", many)
		}
	}
}

// R4: a memo that is nil is as one that is empty, and so are bytes.
func TestNilAndEmpty(t *testing.T) {
	for _, kind := range []int{0, tx.Pay, tx.Note, 3} {
		without, with := tx.Tx{Kind: kind}, tx.Tx{Kind: kind, Memo: []byte{}}
		a, e := tx.Encode(without)
		b, f := tx.Encode(with)
		if !bytes.Equal(a, b) || e != f {
			t.Errorf("Encode of Kind %d: %x, error %d, and %x, error %d", kind, a, e, b, f)
		}
		l, _ := ledger.New(0)
		if e, f := tx.Run(l, 0, without), tx.Run(l, 0, with); e != f {
			t.Errorf("Run of Kind %d: errors %d and %d", kind, e, f)
		}
	}
	for _, b := range [][]byte{nil, {}} {
		if checkDecode(t, b) != api.ErrShort {
			t.Errorf("Decode(%v) did not end too early", b)
		}
	}
}
