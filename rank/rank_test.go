package rank_test

import (
	"math"
	"math/big"
	"math/rand/v2"
	"slices"
	"testing"

	"shroud/rank"
)

// greatest is the greatest fee.
const greatest = math.MaxUint64

// random is a source with a fixed seed, so that each run tests the same.
func random() *rand.Rand { return rand.New(rand.NewPCG(17, 3)) }

// someFees are fees around each bound.
func someFees() []uint64 {
	return []uint64{
		0, 1, 2, 7, 8, 9, 4095, 4096, 4097, 1<<32 - 1, 1 << 32, 1<<52 - 1, 1 << 52, 1<<52 + 1,
		1<<60 - 1, 1 << 60, 1<<63 - 1, 1 << 63, 1<<63 + 1, greatest / 9 * 8, greatest - 1, greatest,
	}
}

// someSizes are numbers of bytes around each bound, and beyond.
func someSizes() []int {
	return []int{math.MinInt, -4096, -1, 0, 1, 2, 3, 8, 9, 32, 2048, 4095, 4096, 4097, 1 << 32, math.MaxInt}
}

// anyFee is a fee of any number of bits.
func anyFee(r *rand.Rand) uint64 { return r.Uint64() >> r.IntN(64) }

// anySize is a number of bytes, of which most are in range.
func anySize(r *rand.Rand) int {
	if r.IntN(4) == 0 {
		return int(r.Uint64()) >> r.IntN(64)
	}
	return 1 + r.IntN(1+4096>>r.IntN(12))
}

// counted is a number of bytes in range.
func counted(bytes int) int64 {
	switch {
	case bytes < 1:
		return 1
	case bytes > 4096:
		return 4096
	}
	return int64(bytes)
}

// rate is an exact fraction.
func rate(fee uint64, bytes int) *big.Rat {
	return new(big.Rat).SetFrac(new(big.Int).SetUint64(fee), big.NewInt(counted(bytes)))
}

// checkCompare takes the right result of Compare alone, in both directions.
func checkCompare(t *testing.T, fee uint64, bytes int, other uint64, others int) {
	t.Helper()
	want := rate(fee, bytes).Cmp(rate(other, others))
	if order := rank.Compare(fee, bytes, other, others); order != want {
		t.Errorf("Compare(%d, %d, %d, %d): %d, not %d", fee, bytes, other, others, order, want)
	}
	if order := rank.Compare(other, others, fee, bytes); order != -want {
		t.Errorf("Compare(%d, %d, %d, %d): %d, not %d", other, others, fee, bytes, order, -want)
	}
}

// slowRaises is what Raises is to return.
func slowRaises(fee uint64, bytes int, old uint64, olds int) bool {
	least := new(big.Rat).Mul(big.NewRat(9, 8), rate(old, olds))
	return rate(fee, bytes).Cmp(least) >= 0 && fee > old
}

// checkRaises takes the right result of Raises alone.
func checkRaises(t *testing.T, fee uint64, bytes int, old uint64, olds int) {
	t.Helper()
	want := slowRaises(fee, bytes, old, olds)
	if raises := rank.Raises(fee, bytes, old, olds); raises != want {
		t.Errorf("Raises(%d, %d, %d, %d): %t", fee, bytes, old, olds, raises)
	}
}

// The examples of the chapter.
func TestExamples(t *testing.T) {
	if order := rank.Compare(3, 2, 1, 1); order != 1 {
		t.Errorf("Compare(3, 2, 1, 1): %d", order)
	}
	if !rank.Raises(9, 1, 8, 1) {
		t.Error("Raises(9, 1, 8, 1): false")
	}
	if rank.Raises(8, 1, 8, 2) {
		t.Error("Raises(8, 1, 8, 2): true")
	}
}

// P17.1: rates whose order is written out here.
func TestCompare(t *testing.T) {
	for _, c := range []struct {
		fee    uint64
		bytes  int
		other  uint64
		others int
		want   int
	}{
		{0, 1, 0, 1, 0}, {0, 1, 0, 4096, 0}, {0, 1, 1, 4096, -1}, {1, 1, 1, 1, 0}, {1, 1, 1, 2, 1}, {1, 2, 1, 1, -1},
		{3, 2, 1, 1, 1}, {2, 2, 1, 1, 0}, {1, 2, 2, 4, 0}, {6, 4, 3, 2, 0}, {1, 3, 1, 2, -1}, {300, 100, 3, 1, 0}, {301, 100, 3, 1, 1}, {299, 100, 3, 1, -1},
		{1, 4096, 0, 1, 1}, {1, 4096, 1, 4095, -1}, {4096, 4096, 1, 1, 0}, {4097, 4096, 1, 1, 1}, {4095, 4096, 1, 1, -1}, {4095, 4095, 4096, 4096, 0},
		// Numbers of bytes out of range.
		{5, 0, 5, 1, 0}, {5, -1, 5, 1, 0}, {5, math.MinInt, 5, 1, 0}, {5, 4097, 5, 4096, 0}, {5, math.MaxInt, 5, 4096, 0}, {5, 0, 5, -7, 0},
		{5, 0, 10, 2, 0}, {5, -3, 4, 1, 1}, {5, 5000, 5, 4095, -1}, {5, 5000, 5, 9000, 0}, {1, math.MaxInt, 1, math.MinInt, -1}, {4096, 1 << 32, 1, 0, 0},
		// Great fees.
		{greatest, 1, greatest, 1, 0}, {greatest, 1, greatest - 1, 1, 1}, {greatest, 4096, greatest - 1, 4096, 1}, {greatest, 4096, greatest, 4095, -1},
		{greatest, 4096, 1 << 52, 1, -1}, {greatest, 4096, 1<<52 - 1, 1, 1}, {1 << 63, 2048, 1 << 52, 1, 0}, {1<<63 + 1, 2048, 1 << 52, 1, 1},
		{greatest, 3, greatest / 3, 1, 0}, {greatest - 1, 3, greatest / 3, 1, -1}, {greatest, 5, greatest / 5 * 2, 2, 0}, {greatest, 1, 0, 1, 1}, {greatest, 4096, 0, 1, 1},
		{1 << 63, 3, 1 << 62, 1, -1}, {1 << 63, 1, 1 << 63, 2, 1}, {1 << 63, 2, 1 << 62, 1, 0},
		// As floats, these rates would be equal.
		{1<<60 + 1, 7, 1 << 60, 7, 1}, {1 << 60, 4095, 1<<60 - 1, 4095, 1}, {greatest - 1, 4095, greatest, 4095, -1},
	} {
		if order := rank.Compare(c.fee, c.bytes, c.other, c.others); order != c.want {
			t.Errorf("Compare(%d, %d, %d, %d): %d, not %d", c.fee, c.bytes, c.other, c.others, order, c.want)
		}
		checkCompare(t, c.fee, c.bytes, c.other, c.others)
	}
}

// P17.1: products that differ only in their lower word, only in their upper word, and in both of them, in opposite directions.
func TestCompareWords(t *testing.T) {
	for _, c := range []struct {
		fee         uint64
		bytes       int
		other       uint64
		others      int
		upper, word int // the orders of the upper words, and of the lower ones
	}{
		{9, 1, 8, 1, 0, 1}, {0, 1, 1, 1, 0, -1}, {greatest, 1, greatest - 1, 1, 0, 1}, {greatest - 1, 4096, greatest, 4096, 0, -1}, {1<<52 + 1, 4096, 1 << 52, 4096, 0, 1},
		{1 << 63, 1, 0, 2, 1, 0}, {0, 2, 1 << 63, 1, -1, 0}, {1 << 63, 2, 1 << 62, 1, 0, 0}, {1 << 52, 1, 0, 4096, 1, 0}, {1 << 63, 1024, 1 << 63, 4096, 1, 0}, {1 << 63, 4, 1 << 63, 2, -1, 0},
		{greatest, 2, 1 << 63, 1, -1, 1}, {1 << 63, 1, 1<<63 - 1, 2, 1, -1}, {1 << 63, 2, greatest, 1, -1, -1}, {greatest, 2, greatest, 3, 1, -1}, {1 << 52, 1, greatest, 4096, 1, -1},
	} {
		x := new(big.Int).Mul(new(big.Int).SetUint64(c.fee), big.NewInt(counted(c.others)))
		y := new(big.Int).Mul(new(big.Int).SetUint64(c.other), big.NewInt(counted(c.bytes)))
		word := new(big.Int).Lsh(big.NewInt(1), 64)
		upper := new(big.Int).Div(x, word).Cmp(new(big.Int).Div(y, word))
		lower := new(big.Int).Mod(x, word).Cmp(new(big.Int).Mod(y, word))
		if upper != c.upper || lower != c.word {
			t.Errorf("the words of %v and %v: %d, %d, not %d, %d", x, y, upper, lower, c.upper, c.word)
		}
		checkCompare(t, c.fee, c.bytes, c.other, c.others)
		checkRaises(t, c.fee, c.bytes, c.other, c.others)
		checkRaises(t, c.other, c.others, c.fee, c.bytes)
	}
}

// P17.1: each fee around a bound with each number of bytes, each two of them.
func TestFeesAroundBounds(t *testing.T) {
	for _, fee := range someFees() {
		for _, other := range someFees() {
			for _, bytes := range someSizes() {
				for _, others := range someSizes() {
					checkCompare(t, fee, bytes, other, others)
					checkRaises(t, fee, bytes, other, others)
				}
			}
		}
	}
}

// P17.1: small numbers with each other.
func TestSmallFees(t *testing.T) {
	for fee := range uint64(24) {
		for other := range uint64(24) {
			for bytes := range 13 {
				for others := range 13 {
					checkCompare(t, fee, bytes, other, others)
					checkRaises(t, fee, bytes, other, others)
				}
			}
		}
	}
}

// P17.1: fees at random, and those for which the rates are equal or nearly so.
func TestFeesAtRandom(t *testing.T) {
	r := random()
	for range 30000 {
		fee, bytes, others := anyFee(r), anySize(r), anySize(r)
		checkCompare(t, fee, bytes, anyFee(r), others)
		checkRaises(t, fee, bytes, anyFee(r), others)
		equal := new(big.Int).SetUint64(fee)
		equal.Mul(equal, big.NewInt(counted(others))).Div(equal, big.NewInt(counted(bytes)))
		if !equal.IsUint64() {
			continue
		}
		for _, other := range []uint64{equal.Uint64() - 1, equal.Uint64(), equal.Uint64() + 1} {
			checkCompare(t, fee, bytes, other, others)
			checkRaises(t, fee, bytes, other, others)
		}
	}
}

// P17.1: raises that are written out here.
func TestRaises(t *testing.T) {
	for _, c := range []struct {
		fee   uint64
		bytes int
		old   uint64
		olds  int
		want  bool
	}{
		// At exactly 9/8 of the old rate, just below and just above it.
		{9, 1, 8, 1, true}, {8, 1, 8, 1, false}, {10, 1, 8, 1, true}, {1, 1, 1, 1, false}, {2, 1, 1, 1, true}, {90, 1, 80, 1, true}, {89, 1, 80, 1, false}, {91, 1, 80, 1, true},
		{10, 1, 9, 1, false}, {11, 1, 9, 1, true}, {8, 1, 7, 1, true}, {17, 1, 16, 1, false}, {18, 1, 16, 1, true}, {18, 2, 8, 1, true}, {17, 2, 8, 1, false}, {19, 2, 8, 1, true},
		{9, 4, 8, 4, true}, {36864, 4096, 8, 1, true}, {36863, 4096, 8, 1, false}, {9, 8, 8, 8, true}, {9, 8, 16, 16, false}, {9, 4096, 8, 4096, true},
		{9, 7, 7, 6, false}, {9, 6, 8, 6, true}, {9, 5, 8, 6, true}, {9, 7, 8, 6, false},
		// A fee that is not greater than the old one, although its rate is.
		{8, 1, 8, 2, false}, {8, 1, 8, 4096, false}, {7, 1, 8, 4096, false}, {9, 1, 8, 2, true}, {9, 2, 8, 4, true}, {greatest, 1, greatest, 4096, false},
		// A greater fee whose rate is not.
		{9, 2, 8, 1, false}, {10, 2, 8, 1, false}, {16, 2, 8, 1, false}, {1000, 4096, 999, 4095, false}, {greatest, 4096, 1 << 52, 1, false},
		// An old fee of 0.
		{0, 1, 0, 1, false}, {1, 1, 0, 1, true}, {1, 4096, 0, 1, true}, {1, 1, 0, 4096, true}, {0, 1, 0, 4096, false}, {greatest, 4096, 0, 1, true},
		{0, 1, 1, 1, false}, {0, 1, 1, 4096, false}, {0, 1, greatest, 4096, false},
		// Numbers of bytes out of range.
		{9, 0, 8, 1, true}, {9, -1, 8, math.MinInt, true}, {8, 0, 8, 1, false}, {9, 5000, 8, 4096, true}, {9, 4096, 8, math.MaxInt, true}, {9, 4097, 8, 4095, false},
		{9, math.MinInt, 8, math.MaxInt, true}, {36864, math.MaxInt, 8, 0, true}, {36863, math.MaxInt, 8, 0, false},
		// Great fees.
		{greatest, 1, greatest, 1, false}, {greatest, 1, greatest - 1, 1, false}, {greatest, 4096, greatest - 1, 4096, false}, {greatest, 4096, greatest / 9 * 8, 4096, true},
		{greatest, 1, greatest / 9 * 8, 1, true}, {greatest, 1, 16397105843297379000, 1, true}, {greatest, 1, 16397105843297379213, 1, true}, {greatest, 1, 16397105843297379214, 1, false},
		{9 << 60, 1, 8 << 60, 1, true}, {9<<60 - 1, 1, 8 << 60, 1, false}, {9<<60 + 1, 1, 8 << 60, 1, true}, {9 << 60, 4096, 8 << 60, 4096, true}, {9<<60 - 1, 4096, 8 << 60, 4096, false},
		{9 << 48, 1, 1 << 63, 4096, false}, {1<<63 + 1, 1, 1 << 63, 4096, true}, {9 << 48, 4096, 1 << 39, 1, true}, {9 << 48, 4096, 1<<39 + 1, 1, false},
	} {
		if raises := rank.Raises(c.fee, c.bytes, c.old, c.olds); raises != c.want {
			t.Errorf("Raises(%d, %d, %d, %d): %t", c.fee, c.bytes, c.old, c.olds, raises)
		}
		checkRaises(t, c.fee, c.bytes, c.old, c.olds)
	}
}

// P17.1: fees around 9/8 of an old rate at random, and around the old fee.
func TestRaisesAtRandom(t *testing.T) {
	r := random()
	for range 30000 {
		old, bytes, olds := anyFee(r), anySize(r), anySize(r)
		for _, fee := range []uint64{old - 1, old, old + 1} {
			checkRaises(t, fee, bytes, old, olds)
		}
		least := new(big.Int).SetUint64(old)
		least.Mul(least, big.NewInt(9*counted(bytes))).Div(least, big.NewInt(8*counted(olds)))
		if !least.IsUint64() {
			continue
		}
		for _, fee := range []uint64{least.Uint64() - 1, least.Uint64(), least.Uint64() + 1} {
			checkRaises(t, fee, bytes, old, olds)
		}
		eight := old >> 4 << 3
		for _, fee := range []uint64{eight/8*9 - 1, eight / 8 * 9, eight/8*9 + 1} {
			checkRaises(t, fee, bytes, eight, bytes)
		}
	}
}

// thing is an element: its key is compared, and its tag tells it from others.
type thing struct{ key, tag int }

// aheads are strict weak orders of things, also nil.
func aheads() []func(a, b thing) bool {
	return []func(a, b thing) bool{
		nil,
		func(a, b thing) bool { return false },
		func(a, b thing) bool { return a.key < b.key },
		func(a, b thing) bool { return a.key > b.key },
		func(a, b thing) bool { return a.key%3 < b.key%3 },
		func(a, b thing) bool { return a.key == 2 && b.key != 2 },
		func(a, b thing) bool { return a.tag > b.tag },
	}
}

// model is a slow heap: its things in the order in which they were added.
type model struct {
	ahead func(a, b thing) bool
	added []thing
}

// first is the index of the first thing: none is ahead of it, and none that was added earlier is equal to it.
func (m *model) first() int {
	first := 0
	for i := range m.added {
		if m.ahead != nil && m.ahead(m.added[i], m.added[first]) {
			first = i
		}
	}
	return first
}

// pop removes the first thing, if there is one.
func (m *model) pop() (thing, bool) {
	if len(m.added) == 0 {
		return thing{}, false
	}
	i := m.first()
	x := m.added[i]
	m.added = slices.Delete(m.added, i, i+1)
	return x, true
}

// all is all things in order.
func (m *model) all() []thing {
	rest := &model{m.ahead, slices.Clone(m.added)}
	all := []thing{}
	for len(rest.added) > 0 {
		x, _ := rest.pop()
		all = append(all, x)
	}
	return all
}

// drop removes some things.
func (m *model) drop(out func(x thing) bool) int {
	many := len(m.added)
	if out != nil {
		m.added = slices.DeleteFunc(m.added, out)
	}
	return many - len(m.added)
}

// both are a heap and its model.
type both struct {
	t *testing.T
	h *rank.Heap[thing]
	m *model
}

// newBoth is an empty heap with its model.
func newBoth(t *testing.T, ahead func(a, b thing) bool) *both {
	return &both{t, rank.New(ahead), &model{ahead: ahead}}
}

// push adds a thing to both.
func (b *both) push(x thing) {
	b.h.Push(x)
	b.m.added = append(b.m.added, x)
}

// pop takes the same result from both.
func (b *both) pop() {
	b.t.Helper()
	want, wantOK := b.m.pop()
	if x, ok := b.h.Pop(); x != want || ok != wantOK {
		b.t.Errorf("Pop: %v, %t, not %v, %t", x, ok, want, wantOK)
	}
}

// drop takes the same result from both.
func (b *both) drop(out func(x thing) bool) {
	b.t.Helper()
	if many, want := b.h.Drop(out), b.m.drop(out); many != want {
		b.t.Errorf("Drop: %d, not %d", many, want)
	}
}

// same takes the same content of both.
func (b *both) same() {
	b.t.Helper()
	want := b.m.all()
	if all := b.h.All(); !slices.Equal(all, want) {
		b.t.Errorf("All: %v, not %v", all, want)
	}
	if many := b.h.Len(); many != len(want) {
		b.t.Errorf("Len: %d, not %d", many, len(want))
	}
	x, ok := b.h.Peek()
	if len(want) == 0 && (ok || x != thing{}) || len(want) > 0 && (!ok || x != want[0]) {
		b.t.Errorf("Peek: %v, %t, but all are %v", x, ok, want)
	}
}

// empty takes all from both, one by one.
func (b *both) empty() {
	b.t.Helper()
	for len(b.m.added) > 0 {
		b.pop()
	}
	b.pop()
	b.same()
}

// popAll takes all from a heap, one by one.
func popAll[T any](h *rank.Heap[T]) []T {
	all := []T{}
	for x, ok := h.Pop(); ok; x, ok = h.Pop() {
		all = append(all, x)
	}
	return all
}

// filled is a heap with things of these keys; their tags are their indices.
func filled(ahead func(a, b thing) bool, keys ...int) *rank.Heap[thing] {
	h := rank.New(ahead)
	for i, key := range keys {
		h.Push(thing{key, i})
	}
	return h
}

// keysRising is the order of things by their keys.
func keysRising(a, b thing) bool { return a.key < b.key }

// P17.2: calls whose results are written out here.
func TestHeap(t *testing.T) {
	h := rank.New(func(a, b string) bool { return len(a) < len(b) })
	take := func(want string, wantOK bool) {
		t.Helper()
		if x, ok := h.Peek(); x != want || ok != wantOK {
			t.Errorf("Peek: %q, %t, not %q, %t", x, ok, want, wantOK)
		}
		if x, ok := h.Pop(); x != want || ok != wantOK {
			t.Errorf("Pop: %q, %t, not %q, %t", x, ok, want, wantOK)
		}
	}
	has := func(want ...string) {
		t.Helper()
		if all := h.All(); !slices.Equal(all, want) || h.Len() != len(want) {
			t.Errorf("All: %q, Len: %d, not %q", all, h.Len(), want)
		}
	}
	has()
	take("", false)
	h.Push("ccc")
	has("ccc")
	h.Push("a")
	h.Push("bb")
	h.Push("z")
	h.Push("")
	h.Push("yy")
	has("", "a", "z", "bb", "yy", "ccc")
	take("", true)
	take("a", true)
	h.Push("b")
	has("z", "b", "bb", "yy", "ccc")
	take("z", true)
	if n := h.Drop(func(x string) bool { return x[0] == 'b' }); n != 2 {
		t.Errorf("Drop: %d", n)
	}
	has("yy", "ccc")
	h.Push("bb")
	has("yy", "bb", "ccc")
	take("yy", true)
	take("bb", true)
	take("ccc", true)
	take("", false)
	has()
	h.Push("again")
	has("again")
	take("again", true)
	take("", false)
}

// P17.2 and P17.3: all orders in which keys are added, some of them equal.
func TestOrdersOfKeys(t *testing.T) {
	var check func(keys []int, most int)
	check = func(keys []int, most int) {
		for _, ahead := range aheads() {
			b := newBoth(t, ahead)
			for i, key := range keys {
				b.push(thing{key, i})
			}
			b.same()
			b.empty()
		}
		for key := range 4 {
			if len(keys) < most {
				check(append(keys[:len(keys):len(keys)], key), most)
			}
		}
	}
	check(nil, 6)
}

// P17.3: random calls in turn have the results of a slow heap.
func TestCallsAtRandom(t *testing.T) {
	r := random()
	for i, ahead := range slices.Repeat(aheads(), 30) {
		b := newBoth(t, ahead)
		b.same()
		for tag := range 150 {
			switch n := r.IntN(20); {
			case n < 11:
				b.push(thing{r.IntN(1 + i%15), tag})
			case n < 18:
				b.pop()
			case n == 18:
				key := r.IntN(1 + i%15)
				b.drop(func(x thing) bool { return x.key == key })
			default:
				part := 2 + r.IntN(5)
				b.drop(func(x thing) bool { return x.tag%part == 0 })
			}
			b.same()
		}
		b.empty()
	}
}

// P17.2: a nil ahead, and one by which all are equal: first in, first out.
func TestAllEqual(t *testing.T) {
	for _, h := range []*rank.Heap[int]{rank.New[int](nil), rank.New(func(a, b int) bool { return false }), {}} {
		want := []int{}
		for n := range 500 {
			h.Push(n * 7 % 500)
			want = append(want, n*7%500)
			if n%3 == 2 {
				if x, ok := h.Pop(); x != want[0] || !ok {
					t.Errorf("Pop: %d, %t, not %d", x, ok, want[0])
				}
				want = want[1:]
			}
		}
		small := func(x int) bool { return x < 100 }
		many := h.Len()
		want = slices.DeleteFunc(want, small)
		if n := h.Drop(small); n != many-len(want) {
			t.Errorf("Drop: %d, not %d", n, many-len(want))
		}
		if all := h.All(); !slices.Equal(all, want) {
			t.Errorf("All: %v, not %v", all, want)
		}
		if all := popAll(h); !slices.Equal(all, want) {
			t.Errorf("Pop: %v, not %v", all, want)
		}
	}
}

// checkEmpty takes a heap that is empty.
func checkEmpty[T comparable](t *testing.T, what string, h *rank.Heap[T]) {
	t.Helper()
	var none T
	if x, ok := h.Pop(); x != none || ok {
		t.Errorf("%s: Pop: %v, %t", what, x, ok)
	}
	if x, ok := h.Peek(); x != none || ok {
		t.Errorf("%s: Peek: %v, %t", what, x, ok)
	}
	if n, all := h.Len(), h.All(); n != 0 || len(all) != 0 {
		t.Errorf("%s: Len: %d, All: %v", what, n, all)
	}
	if n := h.Drop(nil); n != 0 {
		t.Errorf("%s: Drop(nil): %d", what, n)
	}
	asked := 0
	if n := h.Drop(func(T) bool { asked++; return true }); n != 0 || asked != 0 {
		t.Errorf("%s: Drop: %d, asked %d times", what, n, asked)
	}
}

// P17.2: a heap that is empty, in the beginning or again.
func TestEmpty(t *testing.T) {
	checkEmpty(t, "int", rank.New(func(a, b int) bool { return a < b }))
	checkEmpty(t, "nil ahead", rank.New[string](nil))
	checkEmpty(t, "thing", rank.New(keysRising))
	checkEmpty(t, "pointer", rank.New(func(a, b *int) bool { return *a < *b }))
	checkEmpty(t, "any", rank.New(func(a, b any) bool { return false }))
	checkEmpty(t, "array", rank.New(func(a, b [2]byte) bool { return a[0] < b[0] }))
	checkEmpty(t, "zero", &rank.Heap[float64]{})

	h := filled(keysRising, 3, 1, 2)
	popAll(h)
	checkEmpty(t, "popped", h)
	h.Push(thing{1, 1})
	h.Push(thing{0, 2})
	h.Drop(func(thing) bool { return true })
	checkEmpty(t, "dropped", h)
	h.Push(thing{4, 5})
	if x, ok := h.Pop(); x != (thing{4, 5}) || !ok {
		t.Errorf("Pop: %v, %t", x, ok)
	}
	checkEmpty(t, "popped again", h)
}

// P17.3: a nil heap is empty, and remains so.
func TestNilHeap(t *testing.T) {
	var ints *rank.Heap[int]
	var things *rank.Heap[thing]
	var pointers *rank.Heap[*int]
	for range 3 {
		checkEmpty(t, "nil of int", ints)
		checkEmpty(t, "nil of thing", things)
		checkEmpty(t, "nil of pointer", pointers)
		ints.Push(1)
		things.Push(thing{1, 1})
		pointers.Push(new(int))
	}
	if ints != nil || things != nil || pointers != nil {
		t.Error("Push made a heap")
	}
}

// P17.2: elements that cannot be compared, the zero value as an element, and elements that are NaN.
func TestElements(t *testing.T) {
	texts := rank.New(func(a, b []byte) bool { return len(a) < len(b) })
	texts.Push([]byte("bb"))
	texts.Push(nil)
	texts.Push([]byte("a"))
	for _, want := range []string{"", "a", "bb"} {
		if x, ok := texts.Pop(); string(x) != want || !ok {
			t.Errorf("Pop: %q, %t, not %q", x, ok, want)
		}
	}
	if x, ok := texts.Pop(); x != nil || ok {
		t.Errorf("Pop of none: %q, %t", x, ok)
	}

	calls := rank.New(func(a, b func() int) bool { return a() < b() })
	for n := range 5 {
		calls.Push(func() int { return n * 3 % 5 })
	}
	for n := range 5 {
		if x, ok := calls.Pop(); !ok || x() != n {
			t.Errorf("Pop of function %d: %t", n, ok)
		}
	}

	zeros := rank.New(func(a, b int) bool { return a < b })
	zeros.Push(0)
	zeros.Push(0)
	if x, ok := zeros.Peek(); x != 0 || !ok || zeros.Len() != 2 || len(zeros.All()) != 2 {
		t.Errorf("two zeros: %d, %t, %v", x, ok, zeros.All())
	}

	floats := rank.New(func(a, b float64) bool { return false })
	for _, x := range []float64{2, math.NaN(), 1} {
		floats.Push(x)
	}
	if n := floats.Drop(func(x float64) bool { return x != x }); n != 1 || !slices.Equal(floats.All(), []float64{2, 1}) {
		t.Errorf("Drop: %d, and %v is left", n, floats.All())
	}
}

// P17.2: Drop of each subset of some things, also of none and of all; what is left keeps its order.
func TestDrop(t *testing.T) {
	keys := []int{3, 1, 2, 1, 3, 0, 2, 1, 0}
	for _, ahead := range aheads() {
		for set := range 1 << len(keys) {
			b := newBoth(t, ahead)
			for i, key := range keys {
				b.push(thing{key, i})
			}
			before := b.h.All()
			out := func(x thing) bool { return set>>x.tag&1 == 1 }
			b.drop(out)
			b.same()
			if all := b.h.All(); !slices.Equal(all, slices.DeleteFunc(before, out)) {
				t.Errorf("Drop of %b left %v", set, all)
			}
			if set%5 == 0 {
				b.drop(nil)
				b.push(thing{1, len(keys)})
				b.push(thing{3, len(keys) + 1})
			}
			b.empty()
		}
	}
}

// P17.2: Drop of the first, of the last, of all and of nothing of a larger heap.
func TestDropOfMany(t *testing.T) {
	r := random()
	for _, many := range []int{1, 2, 3, 10, 63, 64, 65, 1000} {
		for _, out := range []func(x thing, all []thing) bool{
			func(x thing, all []thing) bool { return x == all[0] },
			func(x thing, all []thing) bool { return x == all[len(all)-1] },
			func(x thing, all []thing) bool { return x == all[0] || x == all[len(all)-1] },
			func(x thing, all []thing) bool { return true },
			func(x thing, all []thing) bool { return false },
			func(x thing, all []thing) bool { return x != all[0] },
			func(x thing, all []thing) bool { return x.tag%2 == 0 },
		} {
			h := rank.New(keysRising)
			for tag := range many {
				h.Push(thing{r.IntN(many), tag})
			}
			all := h.All()
			want := slices.DeleteFunc(slices.Clone(all), func(x thing) bool { return out(x, all) })
			if n := h.Drop(func(x thing) bool { return out(x, all) }); n != many-len(want) || h.Len() != len(want) {
				t.Errorf("Drop of %d things: %d, not %d, and %d are left", many, n, many-len(want), h.Len())
			}
			if left := h.All(); !slices.Equal(left, want) {
				t.Errorf("Drop of %d things left %v, not %v", many, left, want)
			}
			if left := popAll(h); !slices.Equal(left, want) {
				t.Errorf("after Drop of %d things, Pop returns %v, not %v", many, left, want)
			}
		}
	}
}

// P17.2: Drop asks for each element once, in order, so that a function that counts removes the first ones.
func TestDropAsksInOrder(t *testing.T) {
	h := filled(keysRising, 2, 1, 2, 0, 1, 0, 2)
	all := h.All()
	asked := []thing{}
	if n := h.Drop(func(x thing) bool { asked = append(asked, x); return len(asked) <= 3 }); n != 3 {
		t.Errorf("Drop: %d", n)
	}
	if !slices.Equal(asked, all) {
		t.Errorf("Drop asked for %v, not %v", asked, all)
	}
	if left := h.All(); !slices.Equal(left, all[3:]) {
		t.Errorf("Drop left %v, not %v", left, all[3:])
	}
}

// P17.2: a function out that asks the heap itself finds all elements in it, as Drop has not returned yet.
func TestDropWithinAsks(t *testing.T) {
	h := filled(keysRising, 2, 1, 2, 0, 1)
	all := h.All()
	n := h.Drop(func(x thing) bool {
		first, ok := h.Peek()
		if h.Len() != 5 || first != all[0] || !ok || !slices.Equal(h.All(), all) || h.Drop(nil) != 0 {
			t.Errorf("within Drop, the heap is %v", h.All())
		}
		return x.key != 1
	})
	if n != 3 || !slices.Equal(h.All(), []thing{{1, 1}, {1, 4}}) {
		t.Errorf("Drop: %d, and %v is left", n, h.All())
	}
}

// P17.2 and R1: a function out that changes the heap: what it pushed stays, and what it removed is not removed twice.
func TestDropWithinChanges(t *testing.T) {
	h := filled(keysRising, 5, 3, 4)
	n := h.Drop(func(x thing) bool {
		h.Push(thing{x.key - 2, x.tag + 10})
		return x.key > 3
	})
	if all := h.All(); n != 2 || !slices.Equal(all, []thing{{1, 11}, {2, 12}, {3, 1}, {3, 10}}) {
		t.Errorf("Push within Drop: %d, %v", n, all)
	}

	h = filled(keysRising, 5, 3, 4, 6)
	taken := []thing{}
	n = h.Drop(func(x thing) bool {
		if first, ok := h.Pop(); ok && len(taken) < 2 {
			taken = append(taken, first)
		}
		return x.key == 3 || x.key == 6
	})
	if n != 0 || h.Len() != 0 || !slices.Equal(taken, []thing{{3, 1}, {4, 2}}) {
		t.Errorf("Pop within Drop: %d, %v, and %v was taken", n, h.All(), taken)
	}

	h = filled(keysRising, 5, 3, 4, 6, 2)
	inner := 0
	n = h.Drop(func(x thing) bool {
		inner += h.Drop(func(y thing) bool { return y.key > 4 })
		return x.key%2 == 0
	})
	if all := h.All(); n != 2 || inner != 2 || !slices.Equal(all, []thing{{3, 1}}) {
		t.Errorf("Drop within Drop: %d, %d, %v", n, inner, all)
	}

	h = filled(keysRising, 1, 2, 3)
	n = h.Drop(func(x thing) bool {
		if x.key == 1 {
			h.Pop()
			h.Push(x)
		}
		return x.key == 1
	})
	if all := h.All(); n != 0 || !slices.Equal(all, []thing{{1, 0}, {2, 1}, {3, 2}}) {
		t.Errorf("an element that was taken and added again within Drop: %d, %v", n, all)
	}
}

// R1 and P17.3: an ahead that asks the heap itself gets its answers, and the order is as it says.
func TestAheadAsks(t *testing.T) {
	var h *rank.Heap[thing]
	h = rank.New(func(a, b thing) bool {
		h.Peek()
		if h.Len() < 0 || h.Drop(nil) != 0 {
			t.Error("the heap has no length, or Drop(nil) removes something")
		}
		return a.key < b.key
	})
	m := &model{ahead: keysRising}
	for tag := range 100 {
		h.Push(thing{tag * 37 % 11, tag})
		m.added = append(m.added, thing{tag * 37 % 11, tag})
	}
	if all := h.All(); !slices.Equal(all, m.all()) {
		t.Errorf("All: %v", all)
	}
	if all := popAll(h); !slices.Equal(all, m.all()) {
		t.Errorf("Pop: %v", all)
	}
}

// R1: an ahead that changes the heap itself ends, and each element that was pushed is taken once.
func TestAheadChanges(t *testing.T) {
	r := random()
	for range 300 {
		var h *rank.Heap[thing]
		taken, pushed, left := []int{}, 0, 0
		note := func(x thing, ok bool) {
			if ok {
				taken = append(taken, x.tag)
			}
		}
		push := func() {
			pushed++
			h.Push(thing{r.IntN(5), pushed})
		}
		h = rank.New(func(a, b thing) bool {
			if left > 0 && r.IntN(3) == 0 {
				left--
				switch r.IntN(4) {
				case 0:
					push()
				case 1:
					h.Drop(func(x thing) bool {
						if x.key == 1 {
							taken = append(taken, x.tag)
						}
						return x.key == 1
					})
				default:
					note(h.Pop())
				}
			}
			return a.key < b.key
		})
		for range 40 {
			left = 3
			push()
		}
		for range 20 {
			left = 3
			note(h.Pop())
		}
		left = 0 // so that all that are left are taken in the end
		for _, x := range popAll(h) {
			note(x, true)
		}
		slices.Sort(taken)
		// Those are noted twice that Drop was to remove, and that ahead removed before.
		if taken = slices.Compact(taken); len(taken) != pushed || h.Len() != 0 {
			t.Errorf("of %d elements, %d were taken, and %d are left", pushed, len(taken), h.Len())
		}
	}
}

// R1: with an ahead that is no strict weak order, all calls end, and each element is taken once.
func TestAnyAhead(t *testing.T) {
	r := random()
	for i, ahead := range []func(a, b int) bool{
		func(a, b int) bool { return true },
		func(a, b int) bool { return a <= b },
		func(a, b int) bool { return a >= b },
		func(a, b int) bool { return a != b },
		func(a, b int) bool { return (a-b+300)%3 == 1 },
		func(a, b int) bool { return a%2 == 0 },
		func(a, b int) bool { return r.IntN(2) == 0 },
	} {
		h := rank.New(ahead)
		want := []int{}
		for n := range 300 {
			h.Push(n)
			want = append(want, n)
		}
		all := h.All()
		slices.Sort(all)
		if !slices.Equal(all, want) {
			t.Errorf("order %d: All: %v", i, all)
		}
		taken := []int{}
		for range 100 {
			x, ok := h.Pop()
			if !ok {
				t.Errorf("order %d: Pop of nothing", i)
			}
			taken = append(taken, x)
		}
		if n := h.Drop(func(x int) bool { taken = append(taken, x); return x%2 == 0 }); n == 0 || h.Len() != 200-n {
			t.Errorf("order %d: Drop: %d, and %d are left", i, n, h.Len())
		}
		taken = append(slices.DeleteFunc(taken[100:], func(x int) bool { return x%2 != 0 }), append(taken[:100:100], popAll(h)...)...)
		slices.Sort(taken)
		if !slices.Equal(taken, want) {
			t.Errorf("order %d: %v was taken", i, taken)
		}
	}
}

// P17.2: Drop of nothing leaves everything as it is, also with an ahead that is no strict weak order.
func TestDropOfNothing(t *testing.T) {
	h := rank.New(func(a, b int) bool { return (b-a+3)%3 == 1 })
	for n := range 60 {
		h.Push(n * n % 7 % 3)
		all := h.All()
		if h.Drop(func(int) bool { return false }) != 0 || h.Drop(nil) != 0 || !slices.Equal(h.All(), all) {
			t.Errorf("Drop of nothing: %v, and then %v", all, h.All())
		}
	}
}

// P17.3: many elements, rising, falling, equal and at random, in a time that does not grow with their square.
func TestMany(t *testing.T) {
	const many = 200000
	r := random()
	for _, key := range []func(n int) int{
		func(n int) int { return n },
		func(n int) int { return -n },
		func(n int) int { return 5 },
		func(n int) int { return n % 10 },
		func(n int) int { return r.IntN(many) },
	} {
		h := rank.New(keysRising)
		want := []thing{}
		for n := range many {
			x := thing{key(n), n}
			h.Push(x)
			want = append(want, x)
		}
		slices.SortStableFunc(want, func(a, b thing) int { return a.key - b.key })
		if !slices.Equal(h.All(), want) {
			t.Error("All is not in order")
		}
		for range many / 4 {
			if x, ok := h.Pop(); x != want[0] || !ok {
				t.Fatalf("Pop: %v, %t, not %v", x, ok, want[0])
			}
			want = want[1:]
		}
		out := func(x thing) bool { return x.tag%3 == 1 }
		dropped := h.Drop(out)
		want = slices.DeleteFunc(want, out)
		if dropped != many-many/4-len(want) || h.Len() != len(want) {
			t.Errorf("Drop: %d, and %d are left, not %d", dropped, h.Len(), len(want))
		}
		if all := popAll(h); !slices.Equal(all, want) {
			t.Error("Pop is not in order")
		}
	}
}

// R3: what All returns shares no memory with the heap, nor with another result.
func TestMemory(t *testing.T) {
	h := rank.New(keysRising)
	want := []thing{}
	for n := range 60 {
		h.Push(thing{n / 4, n})
		want = append(want, thing{n / 4, n})
		first, second := h.All(), h.All()
		overwrite(first)
		if !slices.Equal(second, want) {
			t.Errorf("All of %d things returned memory of another result", n+1)
		}
		overwrite(second)
		if all := h.All(); !slices.Equal(all, want) {
			t.Errorf("All of %d things returned memory of the heap: %v", n+1, all)
		}
	}
	kept := h.All()
	h.Drop(func(x thing) bool { return x.tag%2 == 0 })
	popAll(h)
	h.Push(thing{-1, -1})
	if !slices.Equal(kept, want) {
		t.Errorf("what All returned was changed to %v", kept)
	}
}

// overwrite changes each thing of the memory of a slice, also that beyond its length.
func overwrite(l []thing) {
	l = l[:cap(l)]
	for i := range l {
		l[i] = thing{-12345, 12345}
	}
}

// R2: All, Peek and Len change nothing, however often they are called.
func TestQuestionsChangeNothing(t *testing.T) {
	for _, ahead := range aheads() {
		h, other := rank.New(ahead), rank.New(ahead)
		for tag := range 50 {
			x := thing{tag * 5 % 7, tag}
			h.Push(x)
			other.Push(x)
			for range 3 {
				h.All()
				h.Peek()
				h.Len()
				h.Drop(nil)
			}
			if tag%4 == 3 {
				x, ok := h.Pop()
				if y, also := other.Pop(); x != y || ok != also {
					t.Errorf("Pop: %v, %t, and without questions %v, %t", x, ok, y, also)
				}
			}
		}
		if all := popAll(h); !slices.Equal(all, popAll(other)) {
			t.Errorf("Pop: %v", all)
		}
	}
}

// R6: heaps do not depend on each other, and the fees not on the calls before.
func TestIndependence(t *testing.T) {
	up, down := rank.New(keysRising), rank.New(func(a, b thing) bool { return a.key > b.key })
	for tag := range 30 {
		up.Push(thing{tag % 6, tag})
		down.Push(thing{tag % 5, tag})
		if tag%7 == 6 {
			down.Pop()
		}
		rank.Compare(uint64(tag), tag, greatest, 4096)
		rank.Raises(greatest, tag, uint64(tag), 1)
	}
	alone := rank.New(keysRising)
	for tag := range 30 {
		alone.Push(thing{tag % 6, tag})
	}
	if all := up.All(); !slices.Equal(all, alone.All()) {
		t.Errorf("All: %v, not %v", all, alone.All())
	}
	down.Drop(func(thing) bool { return true })
	if up.Len() != 30 || down.Len() != 0 {
		t.Errorf("Len: %d and %d", up.Len(), down.Len())
	}
	if rank.Compare(3, 2, 1, 1) != 1 || !rank.Raises(9, 1, 8, 1) || rank.Raises(8, 1, 8, 2) {
		t.Error("the examples, after other calls")
	}
}
