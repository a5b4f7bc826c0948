package welch_test

import (
	"math"
	"math/rand/v2"
	"slices"
	"testing"

	"shroud/api"
	"shroud/gf"
	"shroud/poly"
	"shroud/welch"
)

// random is a source with a fixed seed, so that each run tests the same.
func random() *rand.Rand { return rand.New(rand.NewPCG(4, 256)) }

// slowEval sums up the powers.
func slowEval(f *gf.Field, a []byte, x byte) byte {
	value, power := byte(0), byte(1)
	for _, c := range a {
		value ^= f.Mul(c, power)
		power = f.Mul(power, x)
	}
	return value
}

// slowWrong are the indices of the points through which a does not pass.
func slowWrong(f *gf.Field, points []api.Point, a []byte) []int {
	var l []int
	for i, p := range points {
		if slowEval(f, a, p.X) != p.Y {
			l = append(l, i)
		}
	}
	return l
}

// values are those of a at some positions.
func values(f *gf.Field, a []byte, positions ...byte) []api.Point {
	var l []api.Point
	for _, x := range positions {
		l = append(l, api.Point{X: x, Y: slowEval(f, a, x)})
	}
	return l
}

// randomPositions are so many different ones, in any order; 0 is one of them as often as the others.
func randomPositions(r *rand.Rand, many int) []byte {
	var l []byte
	for _, x := range r.Perm(256)[:many] {
		l = append(l, byte(x))
	}
	return l
}

// firstPositions are those from first on, in their order.
func firstPositions(first, many int) []byte {
	var l []byte
	for i := range many {
		l = append(l, byte(first+i))
	}
	return l
}

// randomPoly has k coefficients, of which often the highest, or all of them, are 0.
func randomPoly(r *rand.Rand, k int) []byte {
	a := make([]byte, k)
	for i := range r.IntN(k + 1) {
		a[i] = byte(r.IntN(256))
	}
	if r.IntN(2) == 0 {
		a[k-1] = byte(1 + r.IntN(255))
	}
	return a
}

// spoilt are points whose values at some indices are changed, each by any element but 0.
func spoilt(r *rand.Rand, points []api.Point, indices []int) []api.Point {
	l := slices.Clone(points)
	for _, i := range indices {
		l[i].Y ^= byte(1 + r.IntN(255))
	}
	return l
}

// someIndices are so many different ones below many, in ascending order.
func someIndices(r *rand.Rand, many, so int) []int {
	l := r.Perm(many)[:so]
	slices.Sort(l)
	return l
}

// subsets are all sets of so many numbers below many, in ascending order.
func subsets(many, so int) [][]int {
	if so == 0 {
		return [][]int{nil}
	}
	if many < so {
		return nil
	}
	l := subsets(many-1, so)
	for _, set := range subsets(many-1, so-1) {
		l = append(l, append(slices.Clone(set), many-1))
	}
	return l
}

// checkDecode holds the result of Decode against what is wanted.
func checkDecode(t *testing.T, f *gf.Field, points []api.Point, k, wrong int, want []byte, wantErrno api.Errno) {
	t.Helper()
	got, e := welch.Decode(f, points, k, wrong)
	if !slices.Equal(got, want) || e != wantErrno {
		t.Fatalf("Decode(%v, %d, %d): %v, %d, not %v, %d", points, k, wrong, got, e, want, wantErrno)
	}
}

// checkWrong holds the result of Wrong against what is wanted.
func checkWrong(t *testing.T, f *gf.Field, points []api.Point, a []byte, want []int) {
	t.Helper()
	if got := welch.Wrong(f, points, a); !slices.Equal(got, want) {
		t.Fatalf("Wrong(%v, %v): %v, not %v", points, a, got, want)
	}
}

// P4.1 and the chapter's examples: points by hand.
func TestExamples(t *testing.T) {
	f := gf.New()
	sevens := []api.Point{{X: 1, Y: 7}, {X: 2, Y: 7}, {X: 3, Y: 7}, {X: 4, Y: 7}, {X: 5, Y: 9}}
	line := []api.Point{{X: 1, Y: 1}, {X: 2, Y: 2}, {X: 3, Y: 3}, {X: 4, Y: 4}, {X: 0, Y: 5}}
	for _, c := range []struct {
		name     string
		points   []api.Point
		k, wrong int
		want     []byte
		e        api.Errno
	}{
		{"the chapter's", sevens, 1, 2, []byte{7}, api.OK},
		{"the chapter's, one wrong", sevens, 1, 1, []byte{7}, api.OK},
		{"the chapter's, none wrong", sevens, 1, 0, nil, api.ErrCode},
		{"the chapter's, more coefficients", sevens, 2, 1, []byte{7, 0}, api.OK},
		{"the chapter's, still more", sevens, 3, 1, []byte{7, 0, 0}, api.OK},
		{"the chapter's, without the wrong one", sevens[:4], 3, 0, []byte{7, 0, 0}, api.OK},
		{"one point", []api.Point{{X: 9, Y: 200}}, 1, 0, []byte{200}, api.OK},
		{"one point at 0", []api.Point{{X: 0, Y: 200}}, 1, 0, []byte{200}, api.OK},
		{"one point with the value 0", []api.Point{{X: 9, Y: 0}}, 1, 0, []byte{0}, api.OK},
		{"two points of a line", line[:2], 2, 0, []byte{0, 1}, api.OK},
		{"two points of no constant", line[:2], 1, 0, nil, api.ErrCode},
		{"a line, wrong at 0", line, 2, 1, []byte{0, 1}, api.OK},
		{"a line, wrong at 0, with none wrong", line, 2, 0, nil, api.ErrCode},
		{"three points, no two alike", line[:3], 1, 1, nil, api.ErrCode},
		{"five points, no two alike", line, 1, 2, nil, api.ErrCode},
		{"the zero polynomial", []api.Point{{X: 3, Y: 0}, {X: 1, Y: 8}, {X: 2, Y: 0}}, 1, 1, []byte{0}, api.OK},
		{"two pairs", []api.Point{{X: 1, Y: 5}, {X: 2, Y: 5}, {X: 3, Y: 6}, {X: 4, Y: 6}}, 1, 1, nil, api.ErrCode},
	} {
		t.Run(c.name, func(t *testing.T) { checkDecode(t, f, c.points, c.k, c.wrong, c.want, c.e) })
	}
	checkWrong(t, f, sevens, []byte{7}, []int{4})
	checkWrong(t, f, line, []byte{0, 1}, []int{4})
}

// P4.1 and R2: integers that may not be, for as many points as it takes, and for none.
func TestErrArgIntegers(t *testing.T) {
	f := gf.New()
	for _, c := range []struct{ many, k, wrong int }{
		{0, 0, 0}, {0, 1, 0}, {0, -1, 0}, {0, -2, 1}, {0, math.MinInt, math.MaxInt},
		{5, 0, 0}, {5, 0, 2}, {5, -1, 0}, {5, -1, 3}, {5, math.MinInt, 0}, {5, math.MinInt, math.MaxInt},
		{5, 1, -1}, {5, 5, -1}, {5, 6, -1}, {5, 7, -1}, {5, 1, math.MinInt}, {5, 2, math.MinInt / 2},
		{5, math.MaxInt, -1}, {5, math.MaxInt, math.MinInt}, {5, math.MaxInt, math.MinInt / 2},
		{5, 6, 0}, {5, 4, 1}, {5, 5, 1}, {5, 2, 2}, {5, 3, 2}, {5, 1, 3}, {5, 7, 0}, {5, 257, 0},
		{5, math.MaxInt, 0}, {5, math.MaxInt, 1}, {5, math.MaxInt, math.MaxInt}, {5, math.MaxInt - 1, 1},
		{5, 1, math.MaxInt}, {5, 1, math.MaxInt / 2}, {5, 1, math.MaxInt/2 + 1}, {5, 2, math.MaxInt/2 + 1},
		{5, 2, math.MaxInt}, {5, 3, math.MaxInt}, {5, 4, math.MaxInt}, {5, 3, math.MaxInt - 1},
		{256, 257, 0}, {256, 255, 1}, {256, 1, 128}, {256, 2, 128}, {256, 0, 128},
	} {
		points := values(f, []byte{7}, firstPositions(0, c.many)...)
		if got, e := welch.Decode(f, points, c.k, c.wrong); len(got) != 0 || e != api.ErrArg {
			t.Errorf("Decode of %d points, %d, %d: %v, %d", c.many, c.k, c.wrong, got, e)
		}
	}
	if got, e := welch.Decode(f, []api.Point{}, 1, 0); len(got) != 0 || e != api.ErrArg {
		t.Errorf("Decode of an empty slice: %v, %d", got, e)
	}
}

// P4.1: integers are in order just where k + 2 · wrong isn't greater than the number of points.
func TestErrArgBounds(t *testing.T) {
	f := gf.New()
	for many := range 12 {
		points := values(f, []byte{77}, firstPositions(0, many)...)
		for k := -2; k < 15; k++ {
			for wrong := -2; wrong < 9; wrong++ {
				if k < 1 || wrong < 0 || k+2*wrong > many {
					checkDecode(t, f, points, k, wrong, nil, api.ErrArg)
					continue
				}
				checkDecode(t, f, points, k, wrong, append([]byte{77}, make([]byte, k-1)...), api.OK)
			}
		}
	}
}

// P4.1: two points with the same X, wherever they are, with the same Y or another one, even if all others fit.
func TestErrArgSameX(t *testing.T) {
	f := gf.New()
	for _, first := range []int{0, 1, 248} {
		points := values(f, []byte{3, 5}, firstPositions(first, 8)...)
		for i := range points {
			for j := range i {
				for _, y := range []byte{points[j].Y, points[i].Y, 99} {
					other := slices.Clone(points)
					other[i] = api.Point{X: points[j].X, Y: y}
					for _, wrong := range []int{0, 1, 3} {
						checkDecode(t, f, other, 2, wrong, nil, api.ErrArg)
					}
				}
			}
		}
	}
	twice := []api.Point{{X: 1, Y: 1}, {X: 1, Y: 1}}
	checkDecode(t, f, twice, 1, 0, nil, api.ErrArg)
	checkDecode(t, f, twice, 2, 0, nil, api.ErrArg)
	checkDecode(t, f, append(values(f, []byte{7}, firstPositions(0, 256)...), api.Point{X: 255, Y: 7}), 1, 0, nil, api.ErrArg)
	checkDecode(t, f, make([]api.Point, 100000), 1, 3, nil, api.ErrArg)
	// An error in the arguments comes first, though no polynomial of a degree below 1 fits.
	checkDecode(t, f, []api.Point{{X: 1, Y: 1}, {X: 2, Y: 2}, {X: 2, Y: 3}}, 1, 0, nil, api.ErrArg)
}

// P4.2: whichever values are changed, up to as many as may be wrong, the polynomial is found, and Wrong tells them.
func TestAllPlaces(t *testing.T) {
	f, r := gf.New(), random()
	for _, c := range []struct{ k, wrong, more int }{
		{1, 0, 0}, {1, 0, 3}, {1, 1, 0}, {1, 2, 0}, {1, 3, 1}, {2, 1, 0}, {2, 2, 1},
		{3, 1, 0}, {3, 2, 0}, {3, 2, 2}, {4, 3, 0}, {5, 1, 1}, {6, 0, 0}, {6, 0, 2},
	} {
		many := c.k + 2*c.wrong + c.more
		for count := range c.wrong + 1 {
			for _, indices := range subsets(many, count) {
				a := randomPoly(r, c.k)
				points := spoilt(r, values(f, a, randomPositions(r, many)...), indices)
				checkDecode(t, f, points, c.k, c.wrong, a, api.OK)
				checkWrong(t, f, points, a, indices)
			}
		}
	}
}

// P4.2: any polynomials, any positions, any number of wrong values, up to many points.
func TestRandom(t *testing.T) {
	f, r := gf.New(), random()
	for range 3000 {
		k, wrong := 1+r.IntN(12), r.IntN(8)
		many := k + 2*wrong + r.IntN(4)
		a := randomPoly(r, k)
		indices := someIndices(r, many, r.IntN(wrong+1))
		points := spoilt(r, values(f, a, randomPositions(r, many)...), indices)
		checkDecode(t, f, points, k, wrong, a, api.OK)
		checkWrong(t, f, points, a, indices)
	}
}

// P4.2: a value that is wrong may be any other one, at any position.
func TestAllValues(t *testing.T) {
	f := gf.New()
	a := []byte{0x57, 0x83, 0xc1}
	for x := range 256 {
		points := values(f, a, byte(x), byte(x+1), byte(x+2), byte(x+100), byte(x+200))
		for change := range 256 {
			other := slices.Clone(points)
			other[x%5].Y ^= byte(change)
			checkDecode(t, f, other, 3, 1, a, api.OK)
		}
	}
}

// P4.2: all wrong values may lie on one other polynomial, or be 0 all of them.
func TestConspiring(t *testing.T) {
	f, r := gf.New(), random()
	for range 500 {
		k, wrong := 1+r.IntN(5), 1+r.IntN(5)
		many := k + 2*wrong
		a, b := randomPoly(r, k), randomPoly(r, k)
		if r.IntN(2) == 0 {
			b = nil
		}
		points := values(f, a, randomPositions(r, many)...)
		for _, i := range someIndices(r, many, wrong) {
			points[i].Y = slowEval(f, b, points[i].X)
		}
		checkDecode(t, f, points, k, wrong, a, api.OK)
	}
}

// P4.1: the result has k coefficients, also where the highest are 0, and for a wrong value as well.
func TestHighestZero(t *testing.T) {
	f := gf.New()
	for k := 1; k <= 10; k++ {
		for degree := -1; degree < k; degree++ {
			a := make([]byte, k)
			if degree >= 0 {
				a[degree] = 200
			}
			points := values(f, a, firstPositions(0, k+4)...)
			for i := range points {
				other := slices.Clone(points)
				other[i].Y ^= 1
				checkDecode(t, f, other, k, 1, a, api.OK)
				checkDecode(t, f, other, k, 2, a, api.OK)
			}
		}
	}
}

// P4.1: a polynomial of the degree k is one too many, however many points there are.
func TestDegreeTooHigh(t *testing.T) {
	f := gf.New()
	for k := 1; k <= 8; k++ {
		a := make([]byte, k+1)
		a[k] = 3
		for wrong := range 4 {
			// One of a lower degree agrees with it at k positions at most, and misses more than wrong of the points.
			for many := k + 2*wrong + 1; many < k+2*wrong+4; many++ {
				points := values(f, a, firstPositions(5, many)...)
				checkDecode(t, f, points, k, wrong, nil, api.ErrCode)
				checkDecode(t, f, points, k+1, wrong, a, api.OK)
			}
		}
	}
}

// slowSearch tries all polynomials of a degree below k, which is 1 or 2.
func slowSearch(f *gf.Field, points []api.Point, k, wrong int) ([]byte, api.Errno) {
	slopes := 1
	if k == 2 {
		slopes = 256
	}
	for slope := range slopes {
		for start := range 256 {
			a := []byte{byte(start), byte(slope)}[:k]
			if len(slowWrong(f, points, a)) <= wrong {
				return a, api.OK
			}
		}
	}
	return nil, api.ErrCode
}

// P4.1: Decode finds what a search through all polynomials finds, if there is one or none.
func TestBySearch(t *testing.T) {
	f, r := gf.New(), random()
	results := map[api.Errno]int{}
	for range 300 {
		k, wrong := 1+r.IntN(2), r.IntN(3)
		many := k + 2*wrong + r.IntN(2)
		indices := someIndices(r, many, min(r.IntN(wrong+3), many))
		points := spoilt(r, values(f, randomPoly(r, k), randomPositions(r, many)...), indices)
		want, e := slowSearch(f, points, k, wrong)
		checkDecode(t, f, points, k, wrong, want, e)
		results[e]++
	}
	if results[api.OK] < 50 || results[api.ErrCode] < 50 {
		t.Errorf("too few of a kind were tested: %v", results)
	}
}

// slowDecode tries the polynomials through each k of the points: one that misses few enough passes through k of them.
func slowDecode(f *gf.Field, points []api.Point, k, wrong int) ([]byte, api.Errno) {
	for _, set := range subsets(len(points), k) {
		var some []api.Point
		for _, i := range set {
			some = append(some, points[i])
		}
		a, _ := poly.Through(f, some)
		if len(slowWrong(f, points, a)) <= wrong {
			return append(slices.Clone(a), make([]byte, k-len(a))...), api.OK
		}
	}
	return nil, api.ErrCode
}

// P4.1 and P4.2: one value more than may be wrong, and still more, up to values that are any at all; then there is no
// polynomial, or it is another one.
func TestTooManyWrong(t *testing.T) {
	f, r := gf.New(), random()
	results, others := map[api.Errno]int{}, 0
	for range 1500 {
		k, wrong := 1+r.IntN(4), r.IntN(3)
		many := k + 2*wrong + r.IntN(3)
		a := randomPoly(r, k)
		points := values(f, a, randomPositions(r, many)...)
		if r.IntN(3) == 0 {
			// The values of two polynomials, so that the second is near, too.
			b := randomPoly(r, k)
			for _, i := range someIndices(r, many, wrong+r.IntN(many-wrong+1)) {
				points[i].Y = slowEval(f, b, points[i].X)
			}
		} else {
			points = spoilt(r, points, someIndices(r, many, min(wrong+1+r.IntN(many), many)))
		}
		want, e := slowDecode(f, points, k, wrong)
		checkDecode(t, f, points, k, wrong, want, e)
		results[e]++
		if e == api.OK && !slices.Equal(want, a) {
			others++
		}
	}
	if results[api.ErrCode] < 300 || others < 100 {
		t.Errorf("too few of a kind were tested: %v, %d others", results, others)
	}
}

// P4.1: with one value more than may be wrong, and a point more than it takes, there is never a polynomial.
func TestOneMore(t *testing.T) {
	f, r := gf.New(), random()
	for _, c := range []struct{ k, wrong int }{{1, 0}, {1, 1}, {1, 2}, {2, 1}, {2, 2}, {3, 1}, {3, 2}, {4, 0}, {5, 1}} {
		many := c.k + 2*c.wrong + 1
		for _, indices := range subsets(many, c.wrong+1) {
			points := spoilt(r, values(f, randomPoly(r, c.k), randomPositions(r, many)...), indices)
			checkDecode(t, f, points, c.k, c.wrong, nil, api.ErrCode)
		}
	}
}

// P4.2: what Decode returns passes through all points except at most wrong of them, for values that are any at all.
func TestPasses(t *testing.T) {
	f, r := gf.New(), random()
	results := map[api.Errno]int{}
	for range 4000 {
		k, wrong := 1+r.IntN(4), r.IntN(3)
		var points []api.Point
		for _, x := range randomPositions(r, k+2*wrong+r.IntN(2)) {
			// Few different values, so that some polynomials are near.
			points = append(points, api.Point{X: x, Y: byte(r.IntN(2))})
		}
		a, e := welch.Decode(f, points, k, wrong)
		results[e]++
		if e == api.ErrCode && len(a) == 0 {
			continue
		}
		if e != api.OK || len(a) != k || len(slowWrong(f, points, a)) > wrong {
			t.Fatalf("Decode(%v, %d, %d): %v, %d", points, k, wrong, a, e)
		}
	}
	if results[api.OK] < 500 || results[api.ErrCode] < 500 {
		t.Errorf("too few of a kind were tested: %v", results)
	}
}

// P4.1: nothing changes if the points stand in another order, with a polynomial and without one.
func TestReordered(t *testing.T) {
	f, r := gf.New(), random()
	for range 500 {
		k, wrong := 1+r.IntN(4), r.IntN(4)
		many := k + 2*wrong + r.IntN(3)
		indices := someIndices(r, many, min(r.IntN(wrong+2), many))
		points := spoilt(r, values(f, randomPoly(r, k), randomPositions(r, many)...), indices)
		want, e := welch.Decode(f, points, k, wrong)
		backward := slices.Clone(points)
		slices.Reverse(backward)
		checkDecode(t, f, backward, k, wrong, want, e)
		for range 5 {
			r.Shuffle(many, func(i, j int) { points[i], points[j] = points[j], points[i] })
			checkDecode(t, f, points, k, wrong, want, e)
		}
	}
}

// P4.1 and P4.2: all positions that there are, and as many wrong values as may be, fewer, and one more.
func TestAllPositions(t *testing.T) {
	f, r := gf.New(), random()
	for _, c := range []struct{ k, wrong int }{{256, 0}, {254, 1}, {2, 127}, {1, 127}, {86, 85}, {100, 40}, {1, 0}} {
		a := randomPoly(r, c.k)
		points := values(f, a, randomPositions(r, 256)...)
		checkDecode(t, f, points, c.k, c.wrong, a, api.OK)
		for _, count := range []int{c.wrong, c.wrong / 2} {
			indices := someIndices(r, 256, count)
			other := spoilt(r, points, indices)
			checkDecode(t, f, other, c.k, c.wrong, a, api.OK)
			checkWrong(t, f, other, a, indices)
		}
		if c.k+2*c.wrong < 256 {
			checkDecode(t, f, spoilt(r, points, someIndices(r, 256, c.wrong+1)), c.k, c.wrong, nil, api.ErrCode)
		}
	}
}

// P4.1: Wrong tells the indices in ascending order, for any points and polynomials, also those that Decode refuses.
func TestWrong(t *testing.T) {
	f, r := gf.New(), random()
	mixed := []api.Point{{X: 9, Y: 1}, {X: 0, Y: 5}, {X: 9, Y: 9}, {X: 9, Y: 1}, {X: 200, Y: 200}, {X: 0, Y: 0}}
	for _, c := range []struct {
		points []api.Point
		a      []byte
		want   []int
	}{
		{nil, nil, nil},
		{nil, []byte{1, 2}, nil},
		{[]api.Point{}, []byte{}, nil},
		{mixed, nil, []int{0, 1, 2, 3, 4}},
		{mixed, []byte{}, []int{0, 1, 2, 3, 4}},
		{mixed, []byte{0, 0, 0}, []int{0, 1, 2, 3, 4}},
		{mixed, []byte{0, 1}, []int{0, 1, 3}},
		{mixed, []byte{0, 1, 0, 0}, []int{0, 1, 3}},
		{mixed, []byte{1}, []int{1, 2, 4, 5}},
		{mixed, []byte{77}, []int{0, 1, 2, 3, 4, 5}},
		{mixed[1:2], []byte{5, 3, 200}, nil},
	} {
		checkWrong(t, f, c.points, c.a, c.want)
	}
	for range 500 {
		a := randomPoly(r, 1+r.IntN(300))
		var points []api.Point
		for range r.IntN(300) {
			x := byte(r.IntN(256))
			points = append(points, api.Point{X: x, Y: slowEval(f, a, x) ^ byte(r.IntN(2))})
		}
		checkWrong(t, f, points, a, slowWrong(f, points, a))
	}
}

// cases are points with a polynomial and without one, and some that may not be.
func cases(f *gf.Field) []struct {
	points   []api.Point
	k, wrong int
} {
	points := values(f, []byte{9, 0, 200}, 4, 0, 7, 1, 255, 6, 3)
	points[2].Y ^= 77
	points[6].Y ^= 1
	return []struct {
		points   []api.Point
		k, wrong int
	}{
		{points, 3, 2}, {points, 3, 1}, {points, 3, 0}, {points, 7, 0}, {points, 1, 3}, {points, 3, 3}, {points, 0, 1},
		{points[3:6], 3, 0}, {points[:1], 1, 0}, {append(slices.Clone(points), points[0]), 3, 2}, {nil, 1, 0},
	}
}

// R3: arguments are not modified, and what is beyond is neither read nor written.
func TestArguments(t *testing.T) {
	f := gf.New()
	for _, c := range cases(f) {
		// The points beyond would be two with the same X, and wrong ones.
		memory := append(slices.Clone(c.points), api.Point{X: 4, Y: 1}, api.Point{X: 4, Y: 2})
		before := slices.Clone(memory)
		given := memory[:len(c.points)]
		want, e := welch.Decode(f, slices.Clip(slices.Clone(c.points)), c.k, c.wrong)
		checkDecode(t, f, given, c.k, c.wrong, want, e)
		coefficients := []byte{9, 0, 200, 55, 66}
		checkWrong(t, f, given, coefficients[:3], slowWrong(f, c.points, []byte{9, 0, 200}))
		if !slices.Equal(memory, before) || !slices.Equal(coefficients, []byte{9, 0, 200, 55, 66}) {
			t.Errorf("Decode or Wrong of %v, %d, %d modified its arguments", c.points, c.k, c.wrong)
		}
	}
}

// R3 and R6: results are new memory, and the same call has the same result again, also for another field.
func TestResults(t *testing.T) {
	f := gf.New()
	for _, c := range cases(f) {
		first, e := welch.Decode(f, c.points, c.k, c.wrong)
		want := slices.Clone(first)
		first = first[:cap(first)]
		for i := range first {
			first[i] ^= 0xff
		}
		checkDecode(t, f, c.points, c.k, c.wrong, want, e)
		checkDecode(t, gf.New(), c.points, c.k, c.wrong, want, e)

		places := welch.Wrong(f, c.points, []byte{9, 0, 200})
		wantPlaces := slices.Clone(places)
		places = places[:cap(places)]
		for i := range places {
			places[i] = -1
		}
		checkWrong(t, f, c.points, []byte{9, 0, 200}, wantPlaces)
		checkWrong(t, gf.New(), c.points, []byte{9, 0, 200}, wantPlaces)
	}
}
