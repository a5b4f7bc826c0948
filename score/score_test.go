package score_test

import (
	"cmp"
	"math"
	"math/big"
	"math/rand/v2"
	"slices"
	"testing"

	"shroud/score"
)

// The numbers at the bounds of rates and of integers.
const (
	greatest    = math.MaxFloat64
	least       = math.SmallestNonzeroFloat64
	greatestFee = math.MaxUint64
	bound       = 1 << 53
)

// Each rate that a constant cannot be.
var (
	nan      = math.NaN()
	infinity = math.Inf(1)
	negative = math.Copysign(0, -1) // negative zero
)

// random is a source with a fixed seed, so that each run tests the same.
func random() *rand.Rand { return rand.New(rand.NewPCG(15, 5)) }

// inOrder are rates in order, no two of which are equal.
func inOrder() []float64 {
	return []float64{-infinity, -greatest, -1, -least, negative, 0, least, 1, greatest, infinity, nan}
}

// someNaN are several NaN that differ in their bits.
func someNaN() []float64 {
	all := []float64{nan, -nan, score.Rate(0, 0), infinity - infinity}
	for payload := range uint64(40) {
		all = append(all, marked(payload))
	}
	return all
}

// marked is a NaN that is told from others by its bits.
func marked(payload uint64) float64 { return math.Float64frombits(0x7ff8000000000100 + payload) }

// anyRate is a rate of bits at random, or one of inOrder.
func anyRate(r *rand.Rand) float64 {
	if all := inOrder(); r.IntN(2) == 0 {
		return all[r.IntN(len(all))]
	}
	return math.Float64frombits(r.Uint64())
}

// anyRates are rates at random.
func anyRates(r *rand.Rand, many int) []float64 {
	l := make([]float64, many)
	for i := range l {
		l[i] = anyRate(r)
	}
	return l
}

// place is a number by which rates are in order: that of the value, counted from zero.
func place(x float64) int64 {
	bits := math.Float64bits(x)
	value := int64(bits &^ (1 << 63))
	switch {
	case math.IsNaN(x):
		return math.MaxInt64
	case bits>>63 == 1:
		return -1 - value
	}
	return value
}

// placeOrder is -1, 0 or 1, as a is before b, is equal to it, or is behind it.
func placeOrder(a, b float64) int { return cmp.Compare(place(a), place(b)) }

// identical tells whether two rates have the same bits, but that each NaN is as any other.
func identical(a, b float64) bool {
	return math.Float64bits(a) == math.Float64bits(b) || math.IsNaN(a) && math.IsNaN(b)
}

// bitsOf are the bits of rates.
func bitsOf(l []float64) []uint64 {
	all := []uint64{}
	for _, x := range l {
		all = append(all, math.Float64bits(x))
	}
	return all
}

// sameBits tells whether all rates of two slices have the same bits.
func sameBits(a, b []float64) bool { return slices.Equal(bitsOf(a), bitsOf(b)) }

// nearest is the float64 next to a number; of two equally near ones, the even one.
func nearest(n *big.Int) float64 {
	x, _ := new(big.Float).SetInt(n).Float64()
	return x
}

// slowRate is what Rate is to return, by exact fractions.
func slowRate(fee uint64, bytes int) float64 {
	above, below := nearest(new(big.Int).SetUint64(fee)), nearest(big.NewInt(int64(bytes)))
	switch {
	case below == 0 && above == 0:
		return nan
	case below == 0:
		return infinity
	case above == 0:
		return math.Copysign(0, below)
	}
	x, _ := new(big.Rat).Quo(new(big.Rat).SetFloat64(above), new(big.Rat).SetFloat64(below)).Float64()
	return x
}

// checkRate takes the right result of Rate alone.
func checkRate(t *testing.T, fee uint64, bytes int) {
	t.Helper()
	if x, want := score.Rate(fee, bytes), slowRate(fee, bytes); !identical(x, want) {
		t.Errorf("Rate(%d, %d): %v, not %v", fee, bytes, x, want)
	}
}

// checkOrder takes the right results of Less and Same alone.
func checkOrder(t *testing.T, a, b float64) {
	t.Helper()
	order := placeOrder(a, b)
	if before := score.Less(a, b); before != (order < 0) {
		t.Errorf("Less(%v, %v): %t", a, b, before)
	}
	if before := score.Less(b, a); before != (order > 0) {
		t.Errorf("Less(%v, %v): %t", b, a, before)
	}
	if equal := score.Same(a, b); equal != (order == 0) {
		t.Errorf("Same(%v, %v): %t", a, b, equal)
	}
}

// The examples of the chapter, and of the document.
func TestExamples(t *testing.T) {
	if x := score.Rate(0, 0); !math.IsNaN(x) {
		t.Errorf("Rate(0, 0): %v", x)
	}
	if !score.Less(negative, 0) {
		t.Error("Less(-0, 0): false")
	}
	if n, ok := score.Round(2.5); n != 2 || !ok {
		t.Errorf("Round(2.5): %d, %t", n, ok)
	}
	for _, x := range inOrder()[:10] {
		if !score.Less(x, score.Rate(0, 0)) || score.Less(score.Rate(0, 0), x) {
			t.Errorf("%v is not before Rate(0, 0)", x)
		}
	}
}

// P15.1: rates that are written out here.
func TestRate(t *testing.T) {
	for _, c := range []struct {
		fee   uint64
		bytes int
		want  float64
	}{
		{0, 0, nan}, {0, 1, 0}, {0, -1, negative}, {0, math.MaxInt, 0}, {0, math.MinInt, negative},
		{1, 0, infinity}, {1, 1, 1}, {1, -1, -1}, {1, math.MaxInt, 1.0 / (1 << 63)}, {1, math.MinInt, -1.0 / (1 << 63)},
		{greatestFee, 0, infinity}, {greatestFee, 1, 1 << 64}, {greatestFee, -1, -(1 << 64)}, {greatestFee, math.MaxInt, 2}, {greatestFee, math.MinInt, -2},
		{3, 2, 1.5}, {3, -2, -1.5}, {1, 3, 1.0 / 3}, {2, 3, 2.0 / 3}, {7, 32, 0.21875}, {300, 100, 3},
		{bound + 1, 1, bound}, {bound + 3, 1, bound + 4}, {bound, bound + 1, 1}, {bound + 1, bound + 1, 1}, {bound, -bound - 1, -1},
		{1 << 63, math.MinInt, -1}, {1<<63 - 1, math.MaxInt, 1},
	} {
		if x := score.Rate(c.fee, c.bytes); !identical(x, c.want) {
			t.Errorf("Rate(%d, %d): %v, not %v", c.fee, c.bytes, x, c.want)
		}
		checkRate(t, c.fee, c.bytes)
	}
}

// P15.1: small numbers with each other, those around each power of 2, and others at random.
func TestRateOfAll(t *testing.T) {
	fees, sizes := []uint64{}, []int{}
	for bits := range 64 {
		for _, n := range []uint64{1<<bits - 1, 1 << bits, 1<<bits + 1, math.MaxUint64 >> bits} {
			fees = append(fees, n, -n)
			sizes = append(sizes, int(n), -int(n))
		}
	}
	for fee := range uint64(50) {
		fees = append(fees, fee)
		sizes = append(sizes, int(fee), -int(fee))
	}
	for _, fee := range fees {
		for _, bytes := range sizes {
			checkRate(t, fee, bytes)
		}
	}
	r := random()
	for range 20000 {
		checkRate(t, r.Uint64()>>r.IntN(64), int(r.Uint64())>>r.IntN(64))
	}
}

// P15.1: each two rates of a list that is in order.
func TestOrder(t *testing.T) {
	for i, a := range inOrder() {
		for k, b := range inOrder() {
			if before := score.Less(a, b); before != (i < k) {
				t.Errorf("Less(%v, %v): %t", a, b, before)
			}
			if equal := score.Same(a, b); equal != (i == k) {
				t.Errorf("Same(%v, %v): %t", a, b, equal)
			}
			checkOrder(t, a, b)
		}
	}
}

// P15.1: each NaN is equal to each other one and after all other rates, whatever its bits are.
func TestOrderOfNaN(t *testing.T) {
	for _, a := range someNaN() {
		for _, b := range someNaN() {
			if score.Less(a, b) || !score.Same(a, b) {
				t.Errorf("%x and %x are not equal", math.Float64bits(a), math.Float64bits(b))
			}
		}
		for _, b := range inOrder()[:10] {
			if score.Less(a, b) || !score.Less(b, a) || score.Same(a, b) || score.Same(b, a) {
				t.Errorf("%x is not after %v", math.Float64bits(a), b)
			}
		}
	}
}

// P15.1: rates next to each other, and at random.
func TestOrderOfAll(t *testing.T) {
	r := random()
	for range 50000 {
		a, b := anyRate(r), anyRate(r)
		checkOrder(t, a, b)
		checkOrder(t, a, a)
		checkOrder(t, a, -a)
		checkOrder(t, a, math.Nextafter(a, b))
		checkOrder(t, a, math.Nextafter(a, infinity))
		checkOrder(t, a, math.Nextafter(a, -infinity))
	}
}

// checkSort takes the right result of Sort alone, with the same bits, and an argument that stays as it is.
func checkSort(t *testing.T, l []float64) {
	t.Helper()
	began := slices.Clone(l)
	sorted := score.Sort(l)
	want := slices.Clone(l)
	slices.SortStableFunc(want, placeOrder)
	if !sameBits(sorted, want) {
		t.Errorf("Sort(%v): %v, not %v", began, sorted, want)
	}
	if !sameBits(l, began) {
		t.Errorf("Sort(%v) changed it to %v", began, l)
	}
}

// P15.2: rates in order that are written out here.
func TestSort(t *testing.T) {
	for _, c := range []struct{ l, want []float64 }{
		{nil, nil}, {[]float64{}, nil}, {[]float64{3}, []float64{3}}, {[]float64{nan}, []float64{nan}},
		{[]float64{1, 2, 3}, []float64{1, 2, 3}}, {[]float64{3, 2, 1}, []float64{1, 2, 3}}, {[]float64{2, 2, 2}, []float64{2, 2, 2}},
		{[]float64{2, 1, 2, 1}, []float64{1, 1, 2, 2}}, {[]float64{10, 9, -1, -2}, []float64{-2, -1, 9, 10}},
		{[]float64{negative, 0}, []float64{negative, 0}}, {[]float64{0, negative}, []float64{negative, 0}},
		{[]float64{0, negative, 0, negative}, []float64{negative, negative, 0, 0}},
		{[]float64{nan, 1}, []float64{1, nan}}, {[]float64{1, nan}, []float64{1, nan}}, {[]float64{nan, infinity, nan, -infinity, nan}, []float64{-infinity, infinity, nan, nan, nan}},
		{[]float64{nan, 0, 2, negative, -infinity}, []float64{-infinity, negative, 0, 2, nan}},
		{[]float64{least, 0, -least, negative}, []float64{-least, negative, 0, least}},
	} {
		if sorted := score.Sort(c.l); !slices.EqualFunc(sorted, c.want, identical) {
			t.Errorf("Sort(%v): %v, not %v", c.l, sorted, c.want)
		}
		checkSort(t, c.l)
	}
}

// P15.2: rates that are in order, in reverse and in any other order.
func TestSortOfAll(t *testing.T) {
	all := inOrder()
	checkSort(t, all)
	slices.Reverse(all)
	checkSort(t, all)
	if !slices.EqualFunc(score.Sort(all), inOrder(), identical) {
		t.Errorf("Sort(%v): %v", all, score.Sort(all))
	}
	for _, a := range inOrder() {
		for _, b := range inOrder() {
			for _, c := range inOrder() {
				checkSort(t, []float64{a, b, c})
			}
			checkSort(t, []float64{a, b})
		}
		checkSort(t, slices.Repeat([]float64{a}, 100))
	}
	r := random()
	for many := range 300 {
		checkSort(t, anyRates(r, many))
	}
	checkSort(t, anyRates(r, 100000))
	rising := make([]float64, 100000)
	for i := range rising {
		rising[i] = float64(i)
	}
	checkSort(t, rising)
	slices.Reverse(rising)
	checkSort(t, rising)
}

// P15.2: equal rates that can be told apart, which are NaN, keep their relative order, also among others.
func TestSortOfNaN(t *testing.T) {
	r := random()
	for many := range uint64(200) {
		l := []float64{}
		for payload := range many {
			l = append(l, marked(payload))
		}
		checkSort(t, l)
		slices.Reverse(l)
		checkSort(t, l)
		for range many {
			l = slices.Insert(l, r.IntN(len(l)+1), anyRate(r))
		}
		checkSort(t, l)
	}
}

// slowClamp is what Clamp is to return.
func slowClamp(x, low, high float64) float64 {
	if math.IsNaN(x) || place(x) < place(low) {
		return low
	}
	if place(high) < place(x) {
		return high
	}
	return x
}

// P15.2: rates that are held between others, as they are written out here.
func TestClamp(t *testing.T) {
	for _, c := range []struct{ x, low, high, want float64 }{
		{1.5, 1, 2, 1.5}, {1, 1, 2, 1}, {2, 1, 2, 2}, {0.5, 1, 2, 1}, {2.5, 1, 2, 2}, {5, 1, 1, 1},
		{nan, 1, 2, 1}, {nan, negative, 2, negative}, {nan, nan, 2, nan}, {nan, infinity, -infinity, infinity},
		{infinity, 1, 2, 2}, {-infinity, 1, 2, 1}, {infinity, 1, infinity, infinity}, {-infinity, -infinity, 2, -infinity},
		{1, -infinity, infinity, 1}, {infinity, -infinity, greatest, greatest}, {-infinity, -greatest, infinity, -greatest},
		{negative, 0, 0, 0}, {0, 0, 0, 0}, {negative, negative, 0, negative}, {0, negative, 0, 0},
		{negative, negative, negative, negative}, {0, negative, negative, negative}, {negative, 0, 1, 0}, {0, -1, negative, negative},
		{negative, 0, negative, 0}, {0, 0, negative, negative},
		{1, nan, 2, nan}, {infinity, nan, 2, nan}, {-infinity, nan, nan, nan}, {1, 0, nan, 1}, {-1, 0, nan, 0}, {infinity, 0, nan, infinity},
		{nan, 0, nan, 0}, {nan, nan, nan, nan},
		{1, 5, 2, 5}, {3, 5, 2, 5}, {5, 5, 2, 2}, {6, 5, 2, 2}, {2, 5, 2, 5}, {nan, 5, 2, 5},
	} {
		if x := score.Clamp(c.x, c.low, c.high); !identical(x, c.want) {
			t.Errorf("Clamp(%v, %v, %v): %v, not %v", c.x, c.low, c.high, x, c.want)
		}
	}
}

// P15.2: each three rates of a list that is in order, and others at random.
func TestClampOfAll(t *testing.T) {
	check := func(x, low, high float64) {
		t.Helper()
		if y, want := score.Clamp(x, low, high), slowClamp(x, low, high); !identical(y, want) {
			t.Errorf("Clamp(%v, %v, %v): %v, not %v", x, low, high, y, want)
		}
	}
	for _, x := range inOrder() {
		for _, low := range inOrder() {
			for _, high := range inOrder() {
				check(x, low, high)
			}
		}
	}
	r := random()
	for range 50000 {
		check(anyRate(r), anyRate(r), anyRate(r))
	}
}

// P15.2: the middle one of rates that are written out here.
func TestMid(t *testing.T) {
	for _, c := range []struct {
		l    []float64
		want float64
	}{
		{nil, nan}, {[]float64{}, nan}, {[]float64{7}, 7}, {[]float64{nan}, nan}, {[]float64{negative}, negative},
		{[]float64{1, 2}, 2}, {[]float64{2, 1}, 2}, {[]float64{1, nan}, nan}, {[]float64{nan, 1}, nan}, {[]float64{0, negative}, 0}, {[]float64{negative, 0}, 0},
		{[]float64{3, 1, 2}, 2}, {[]float64{2, nan, 1}, 2}, {[]float64{nan, 1, nan}, nan}, {[]float64{0, 0, negative}, 0}, {[]float64{0, negative, negative}, negative},
		{[]float64{5, 1, 3, 2}, 3}, {[]float64{nan, 1, 3, 2}, 3}, {[]float64{nan, 1, nan, 2}, nan}, {[]float64{5, 4, 3, 2, 1}, 3}, {[]float64{5, nan, 3, nan, 1}, 5},
		{[]float64{infinity, -infinity, 0}, 0}, {[]float64{infinity, -infinity}, infinity}, {[]float64{2, 2, 2, 2}, 2},
	} {
		if x := score.Mid(c.l); !identical(x, c.want) {
			t.Errorf("Mid(%v): %v, not %v", c.l, x, c.want)
		}
	}
}

// P15.2: the middle one of any rates, which stay as they are.
func TestMidOfAll(t *testing.T) {
	r := random()
	for many := 1; many < 300; many++ {
		l := anyRates(r, many)
		began := slices.Clone(l)
		want := slices.Clone(l)
		slices.SortStableFunc(want, placeOrder)
		x := score.Mid(l)
		if math.Float64bits(x) != math.Float64bits(want[many/2]) {
			t.Errorf("Mid(%v): %v, not %v", began, x, want[many/2])
		}
		if !sameBits(l, began) {
			t.Errorf("Mid(%v) changed it to %v", began, l)
		}
		if x := score.Mid(someNaN()[:1+many%40]); !math.IsNaN(x) {
			t.Errorf("Mid of NaN: %v", x)
		}
	}
}

// slowRound is what Round is to return, by exact fractions.
func slowRound(x float64) (int, bool) {
	if math.IsNaN(x) || math.IsInf(x, 0) || math.Abs(x) > bound {
		return 0, false
	}
	exact := new(big.Rat).SetFloat64(x)
	below := new(big.Int).Div(exact.Num(), exact.Denom()) // not above x, as a denominator is positive
	rest := new(big.Rat).Sub(exact, new(big.Rat).SetInt(below))
	if order := rest.Cmp(big.NewRat(1, 2)); order > 0 || order == 0 && below.Bit(0) == 1 {
		below.Add(below, big.NewInt(1))
	}
	return int(below.Int64()), true
}

// checkRound takes the right result of Round alone.
func checkRound(t *testing.T, x float64) {
	t.Helper()
	want, wantOK := slowRound(x)
	if n, ok := score.Round(x); n != want || ok != wantOK {
		t.Errorf("Round(%v): %d, %t, not %d, %t", x, n, ok, want, wantOK)
	}
}

// P15.3: rates that are rounded as it is written out here.
func TestRound(t *testing.T) {
	for _, c := range []struct {
		x    float64
		want int
	}{
		{negative, 0}, {0, 0}, {least, 0}, {-least, 0}, {1, 1}, {-1, -1}, {0.4, 0}, {0.6, 1}, {-0.4, 0}, {-0.6, -1},
		{0.5, 0}, {1.5, 2}, {2.5, 2}, {3.5, 4}, {4.5, 4}, {-0.5, 0}, {-1.5, -2}, {-2.5, -2}, {-3.5, -4}, {-4.5, -4},
		{0.49999999999999994, 0}, {-0.49999999999999994, 0}, {0.5000000000000001, 1}, {-0.5000000000000001, -1},
		{1.4999999999999998, 1}, {1.5000000000000002, 2}, {2.4999999999999996, 2}, {2.5000000000000004, 3}, {-2.4999999999999996, -2}, {-2.5000000000000004, -3},
		{1<<52 - 0.5, 1 << 52}, {1<<52 - 1.5, 1<<52 - 2}, {1<<52 - 2.5, 1<<52 - 2}, {1<<52 - 3.5, 1<<52 - 4},
		{-(1<<52 - 0.5), -(1 << 52)}, {-(1<<52 - 1.5), -(1<<52 - 2)}, {-(1<<52 - 2.5), -(1<<52 - 2)}, {-(1<<52 - 3.5), -(1<<52 - 4)},
		{1 << 52, 1 << 52}, {1<<52 + 1, 1<<52 + 1}, {-(1<<52 + 1), -(1<<52 + 1)}, {1<<51 + 0.25, 1 << 51}, {1<<51 + 0.75, 1<<51 + 1},
		{bound - 1, bound - 1}, {bound, bound}, {-(bound - 1), -(bound - 1)}, {-bound, -bound}, {bound - 3, bound - 3},
	} {
		if n, ok := score.Round(c.x); n != c.want || !ok {
			t.Errorf("Round(%v): %d, %t, not %d", c.x, n, ok, c.want)
		}
		checkRound(t, c.x)
	}
}

// P15.3: rates that are not rounded.
func TestRoundOfOthers(t *testing.T) {
	others := []float64{
		infinity, bound + 2, bound + 4, 1 << 54, 1<<63 - 1024, 1 << 63, 1<<63 + 2048, 1<<64 - 2048, 1 << 64, 1 << 65, 1e300, greatest,
		math.Nextafter(bound, infinity),
	}
	for _, x := range others {
		others = append(others, -x)
	}
	for _, x := range append(others, someNaN()...) {
		if n, ok := score.Round(x); n != 0 || ok {
			t.Errorf("Round(%v): %d, %t", x, n, ok)
		}
		checkRound(t, x)
	}
}

// P15.3: integers and halves, with the rates next to them, around 0 and around each power of 2, and others at random.
func TestRoundOfAll(t *testing.T) {
	check := func(x float64) {
		t.Helper()
		for _, y := range []float64{x, math.Nextafter(x, infinity), math.Nextafter(x, -infinity)} {
			checkRound(t, y)
			checkRound(t, -y)
		}
	}
	for quarters := range 4000 {
		check(float64(quarters) / 4)
		for power := 10; power < 60; power++ {
			if around := float64(int(1) << power); quarters < 40 {
				check(around + float64(quarters)/4)
				check(around - float64(quarters)/4)
			}
		}
	}
	r := random()
	for range 50000 {
		checkRound(t, anyRate(r))
		check(float64(r.Int64N(bound)) / float64(int(1)<<r.IntN(54)))
		check(float64(r.Int64N(1<<52)) + 0.5)
	}
}

// R3: the memory beyond the length of a slice is neither read nor written, and what Sort returns shares none with it, nor
// with another result.
func TestMemory(t *testing.T) {
	r := random()
	for many := range 60 {
		memory := anyRates(r, many+40)
		began := slices.Clone(memory)
		short := slices.Clone(memory[:many])
		first, second := score.Sort(memory[:many]), score.Sort(memory[:many])
		x := score.Mid(memory[:many])
		want := score.Sort(short)
		if !sameBits(memory, began) {
			t.Errorf("Sort or Mid of %d rates left %v, not %v", many, memory, began)
		}
		if !sameBits(first, want) || !sameBits(second, want) || !identical(x, score.Mid(short)) {
			t.Errorf("Sort and Mid of %d rates depend on the memory beyond them", many)
		}
		overwrite(first)
		if !sameBits(memory, began) || !sameBits(second, want) {
			t.Errorf("Sort returned memory of its %d rates, or of another result", many)
		}
		overwrite(memory)
		if !sameBits(second, want) {
			t.Errorf("Sort returned memory of its %d rates", many)
		}
	}
}

// overwrite changes each rate of the memory of a slice, also that beyond its length.
func overwrite(l []float64) {
	l = l[:cap(l)]
	for i := range l {
		l[i] = 12345
	}
}

// R4: no rates are no rates, whether the slice is nil or empty.
func TestNilAndEmpty(t *testing.T) {
	for _, l := range [][]float64{nil, {}, make([]float64, 0, 9), inOrder()[:0]} {
		if sorted := score.Sort(l); len(sorted) != 0 {
			t.Errorf("Sort(%v): %v", l, sorted)
		}
		if x := score.Mid(l); !math.IsNaN(x) {
			t.Errorf("Mid(%v): %v", l, x)
		}
	}
}

// R6: a call depends on its arguments alone, not on the calls before it.
func TestCallsAreIndependent(t *testing.T) {
	results := func(x float64) []float64 {
		n, ok := score.Round(x)
		if !ok {
			n = -12345
		}
		l := []float64{x, nan, 0, x, negative}
		return slices.Concat([]float64{score.Rate(uint64(n), n), score.Clamp(x, -1, 1), score.Mid(l), float64(n)}, score.Sort(l))
	}
	first := [][]float64{}
	for _, x := range inOrder() {
		first = append(first, results(x))
	}
	for i, x := range slices.Backward(inOrder()) {
		if again := results(x); !slices.EqualFunc(again, first[i], identical) {
			t.Errorf("results of %v: %v, and then %v", x, first[i], again)
		}
	}
}
