package poly_test

import (
	"math/rand/v2"
	"slices"
	"testing"

	"shroud/api"
	"shroud/gf"
	"shroud/poly"
)

// random is a source with a fixed seed, so that each run tests the same.
func random() *rand.Rand { return rand.New(rand.NewPCG(2, 256)) }

// randomPoly has up to most coefficients, often with zeros at its end and among the others.
func randomPoly(r *rand.Rand, most int) []byte {
	a := make([]byte, r.IntN(most+1))
	for i := range a {
		if r.IntN(3) > 0 {
			a[i] = byte(r.IntN(256))
		}
	}
	return append(a, make([]byte, r.IntN(3))...)
}

// isTrimmed tells whether there is no coefficient 0 at the end.
func isTrimmed(a []byte) bool { return len(a) == 0 || a[len(a)-1] != 0 }

// slowTrim takes the zeros at the end off one by one.
func slowTrim(a []byte) []byte {
	b := slices.Clone(a)
	for !isTrimmed(b) {
		b = b[:len(b)-1]
	}
	return b
}

// slowEval sums up the powers, as the words say it.
func slowEval(f *gf.Field, a []byte, x byte) byte {
	value, power := byte(0), byte(1)
	for _, c := range a {
		value ^= f.Mul(c, power)
		power = f.Mul(power, x)
	}
	return value
}

// slowAdd fills up with zeros, and adds coefficient by coefficient.
func slowAdd(a, b []byte) []byte {
	sum := make([]byte, len(a)+len(b))
	for i := range sum {
		if i < len(a) {
			sum[i] ^= a[i]
		}
		if i < len(b) {
			sum[i] ^= b[i]
		}
	}
	return slowTrim(sum)
}

// slowMul collects for each power the products that belong to it.
func slowMul(f *gf.Field, a, b []byte) []byte {
	product := make([]byte, len(a)+len(b))
	for power := range product {
		for i, c := range a {
			if j := power - i; j >= 0 && j < len(b) {
				product[power] ^= f.Mul(c, b[j])
			}
		}
	}
	return slowTrim(product)
}

// points are the values of a at some positions.
func points(f *gf.Field, a []byte, positions ...byte) []api.Point {
	var l []api.Point
	for _, x := range positions {
		l = append(l, api.Point{X: x, Y: slowEval(f, a, x)})
	}
	return l
}

// randomPositions are some positions, each once, in no order.
func randomPositions(r *rand.Rand, many int) []byte {
	var l []byte
	for _, x := range r.Perm(256)[:many] {
		l = append(l, byte(x))
	}
	return l
}

// P2.1: Degree and Trim, for no coefficients and for zeros at the end, too.
func TestDegreeTrim(t *testing.T) {
	for _, c := range []struct {
		a      []byte
		degree int
	}{
		{nil, -1},
		{[]byte{}, -1},
		{[]byte{0}, -1},
		{[]byte{0, 0, 0}, -1},
		{[]byte{1}, 0},
		{[]byte{255}, 0},
		{[]byte{1, 0}, 0},
		{[]byte{0, 1}, 1},
		{[]byte{0, 128, 0, 0}, 1},
		{[]byte{5, 0, 7}, 2},
		{[]byte{5, 0, 7, 0}, 2},
		{[]byte{0, 0, 0, 3}, 3},
	} {
		if d := poly.Degree(c.a); d != c.degree {
			t.Errorf("Degree(%v): %d, not %d", c.a, d, c.degree)
		}
		if b := poly.Trim(c.a); !slices.Equal(b, c.a[:c.degree+1]) {
			t.Errorf("Trim(%v): %v", c.a, b)
		}
	}
}

// P2.1: Degree and Trim of long polynomials.
func TestDegreeTrimLong(t *testing.T) {
	for _, degree := range []int{255, 256, 257, 65535, 65536} {
		a := make([]byte, degree+1, 2*degree)
		a[degree] = 1
		a = append(a, make([]byte, degree-1)...)
		if d := poly.Degree(a); d != degree {
			t.Errorf("Degree: %d, not %d", d, degree)
		}
		if b := poly.Trim(a); !slices.Equal(b, a[:degree+1]) {
			t.Errorf("Trim: %d coefficients, not %d", len(b), degree+1)
		}
	}
}

// P2.1: Eval, with examples by hand.
func TestEvalExamples(t *testing.T) {
	f := gf.New()
	for _, c := range []struct {
		a        []byte
		x, value byte
	}{
		{nil, 0, 0},
		{nil, 9, 0},
		{[]byte{0, 0}, 9, 0},
		{[]byte{7}, 0, 7},
		{[]byte{7}, 200, 7},
		{[]byte{7, 9, 9}, 0, 7},
		{[]byte{0, 1}, 200, 200},
		{[]byte{0, 0x57}, 0x83, 0xc1},
		{[]byte{1, 2, 3}, 1, 0},
		{[]byte{1, 2, 3}, 2, 1 ^ 4 ^ 12},
		{[]byte{1, 2, 3, 0, 0}, 2, 1 ^ 4 ^ 12},
	} {
		if v := poly.Eval(f, c.a, c.x); v != c.value {
			t.Errorf("Eval(%v, %d): %d, not %d", c.a, c.x, v, c.value)
		}
	}
}

// P2.1: Eval is the sum of the coefficients times the powers, at all positions.
func TestEval(t *testing.T) {
	f, r := gf.New(), random()
	for range 200 {
		a := randomPoly(r, 12)
		for x := range 256 {
			if v, want := poly.Eval(f, a, byte(x)), slowEval(f, a, byte(x)); v != want {
				t.Fatalf("Eval(%v, %d): %d, not %d", a, x, v, want)
			}
		}
	}
}

// P2.1: Add, with sums that cancel out at the end, or whole.
func TestAddExamples(t *testing.T) {
	for _, c := range []struct{ a, b, sum []byte }{
		{nil, nil, nil},
		{nil, []byte{0, 0}, nil},
		{[]byte{1, 2, 3}, nil, []byte{1, 2, 3}},
		{nil, []byte{1, 2, 0}, []byte{1, 2}},
		{[]byte{1, 2, 3}, []byte{4, 2, 3}, []byte{5}},
		{[]byte{1, 2, 3}, []byte{1, 2, 3}, nil},
		{[]byte{1, 2}, []byte{1, 2, 0, 0}, nil},
		{[]byte{1}, []byte{0, 0, 9}, []byte{1, 0, 9}},
		{[]byte{0, 0, 9}, []byte{1}, []byte{1, 0, 9}},
		{[]byte{5, 0, 0, 0}, []byte{6, 0}, []byte{3}},
	} {
		if sum := poly.Add(c.a, c.b); !slices.Equal(sum, c.sum) {
			t.Errorf("Add(%v, %v): %v, not %v", c.a, c.b, sum, c.sum)
		}
	}
}

// P2.1: Mul, with the zero polynomial and with zeros at the end.
func TestMulExamples(t *testing.T) {
	f := gf.New()
	for _, c := range []struct{ a, b, product []byte }{
		{nil, nil, nil},
		{nil, []byte{1, 2}, nil},
		{[]byte{1, 2}, nil, nil},
		{[]byte{0, 0}, []byte{1, 2}, nil},
		{[]byte{1, 2}, []byte{0}, nil},
		{[]byte{1}, []byte{3, 0, 4}, []byte{3, 0, 4}},
		{[]byte{1, 1}, []byte{1, 1}, []byte{1, 0, 1}},
		{[]byte{1, 1, 0, 0}, []byte{1, 1, 0}, []byte{1, 0, 1}},
		{[]byte{0, 0x57}, []byte{0, 0, 0x83}, []byte{0, 0, 0, 0xc1}},
		{[]byte{0x57}, []byte{0x83, 1}, []byte{0xc1, 0x57}},
	} {
		if product := poly.Mul(f, c.a, c.b); !slices.Equal(product, c.product) {
			t.Errorf("Mul(%v, %v): %v, not %v", c.a, c.b, product, c.product)
		}
	}
}

// P2.1: sums and products, of polynomials of all lengths.
func TestAddMul(t *testing.T) {
	f, r := gf.New(), random()
	for range 5000 {
		a, b := randomPoly(r, 10), randomPoly(r, 10)
		if sum, want := poly.Add(a, b), slowAdd(a, b); !slices.Equal(sum, want) {
			t.Fatalf("Add(%v, %v): %v, not %v", a, b, sum, want)
		}
		if product, want := poly.Mul(f, a, b), slowMul(f, a, b); !slices.Equal(product, want) {
			t.Fatalf("Mul(%v, %v): %v, not %v", a, b, product, want)
		}
	}
}

// P2.1: a sum of polynomials that differ only in the first coefficients, and a product of more coefficients than there are elements.
func TestAddMulLong(t *testing.T) {
	f := gf.New()
	a, b := make([]byte, 600), make([]byte, 700)
	for i := range a {
		a[i] = byte(i*7 + 1)
	}
	for i := range b {
		b[i] = byte(i*i + 3)
	}
	if product, want := poly.Mul(f, a, b), slowMul(f, a, b); !slices.Equal(product, want) {
		t.Error("Mul of 600 and 700 coefficients")
	}
	c := slices.Clone(a)
	c[1] ^= 9
	if sum := poly.Add(a, c); !slices.Equal(sum, []byte{0, 9}) {
		t.Errorf("Add: %v", sum)
	}
}

// P2.2 and the chapter's example: quotients by hand.
func TestDivideExamples(t *testing.T) {
	f := gf.New()
	for _, c := range []struct{ a, b, q, r []byte }{
		{[]byte{0, 0, 1}, []byte{1, 1}, []byte{1, 1}, []byte{1}},
		{[]byte{0, 0, 1, 0}, []byte{1, 1, 0, 0}, []byte{1, 1}, []byte{1}},
		{nil, []byte{5}, nil, nil},
		{[]byte{0, 0, 0}, []byte{1, 1}, nil, nil},
		{[]byte{7}, []byte{7}, []byte{1}, nil},
		{[]byte{0xc1, 0}, []byte{0x83}, []byte{0x57}, nil},
		{[]byte{7, 8}, []byte{0, 0, 1}, nil, []byte{7, 8}},
		{[]byte{7, 0, 0, 0}, []byte{0, 0, 1}, nil, []byte{7}},
		{[]byte{1, 0, 1}, []byte{1, 1}, []byte{1, 1}, nil},
		{[]byte{3, 0, 0, 2}, []byte{0, 0, 0, 2}, []byte{1}, []byte{3}},
		{[]byte{3, 4, 5, 6}, []byte{1}, []byte{3, 4, 5, 6}, nil},
		{[]byte{3, 4, 5, 6}, []byte{0, 1}, []byte{4, 5, 6}, []byte{3}},
	} {
		q, r, e := poly.Divide(f, c.a, c.b)
		if !slices.Equal(q, c.q) || !slices.Equal(r, c.r) || e != api.OK {
			t.Errorf("Divide(%v, %v): %v, %v, %d, not %v, %v", c.a, c.b, q, r, e, c.q, c.r)
		}
	}
}

// P2.2 and R2: a division by the zero polynomial, however it is written and whatever is divided.
func TestDivideByZero(t *testing.T) {
	f := gf.New()
	for _, a := range [][]byte{nil, {0}, {1}, {1, 2, 3}, {0, 0, 0, 9, 0}} {
		for _, b := range [][]byte{nil, {}, {0}, {0, 0, 0, 0, 0, 0}} {
			if q, r, e := poly.Divide(f, a, b); len(q) != 0 || len(r) != 0 || e != api.ErrArg {
				t.Errorf("Divide(%v, %v): %v, %v, %d", a, b, q, r, e)
			}
		}
	}
}

// checkDivide checks what P2.2 says of a quotient and of what is left.
func checkDivide(t *testing.T, f *gf.Field, a, b []byte) {
	t.Helper()
	q, r, e := poly.Divide(f, a, b)
	if e != api.OK {
		t.Fatalf("Divide(%v, %v): error %d", a, b, e)
	}
	if !isTrimmed(q) || !isTrimmed(r) || len(r) >= len(slowTrim(b)) {
		t.Fatalf("Divide(%v, %v): %v, %v", a, b, q, r)
	}
	if back := slowAdd(slowMul(f, q, b), r); !slices.Equal(back, slowTrim(a)) {
		t.Fatalf("Divide(%v, %v): %v, %v, which is %v", a, b, q, r, back)
	}
}

// P2.2: a = q · b + r, and r has a lower degree than b.
func TestDivide(t *testing.T) {
	f, r := gf.New(), random()
	divided := 0
	for divided < 5000 {
		a, b := randomPoly(r, 16), randomPoly(r, 8)
		if len(slowTrim(b)) == 0 {
			continue
		}
		checkDivide(t, f, a, b)
		divided++
	}
	long := make([]byte, 2000)
	for i := range long {
		long[i] = byte(i*i + 5*i + 1)
	}
	for _, degree := range []int{0, 1, 300, 998, 1998, 1999} {
		checkDivide(t, f, long, long[:degree+1])
	}
}

// P2.2: a product with something less added is divided into its parts again, for all last coefficients.
func TestDivideProduct(t *testing.T) {
	f := gf.New()
	for last := 1; last < 256; last++ {
		b := []byte{17, 0, byte(last)}
		q, r := []byte{4, 0, 0, 200}, []byte{0, 9}
		a := slowAdd(slowMul(f, q, b), r)
		gotQ, gotR, e := poly.Divide(f, a, b)
		if !slices.Equal(gotQ, q) || !slices.Equal(gotR, r) || e != api.OK {
			t.Errorf("Divide(%v, %v): %v, %v, %d", a, b, gotQ, gotR, e)
		}
	}
}

// P2.3, DOC.md and the chapter's example: polynomials through a few points.
func TestThroughExamples(t *testing.T) {
	f := gf.New()
	for _, c := range []struct {
		points []api.Point
		want   []byte
	}{
		{nil, nil},
		{[]api.Point{}, nil},
		{[]api.Point{{X: 1, Y: 1}, {X: 2, Y: 2}}, []byte{0, 1}},
		{[]api.Point{{X: 2, Y: 2}, {X: 1, Y: 1}}, []byte{0, 1}},
		{[]api.Point{{X: 0, Y: 9}}, []byte{9}},
		{[]api.Point{{X: 255, Y: 9}}, []byte{9}},
		{[]api.Point{{X: 255, Y: 0}}, nil},
		{[]api.Point{{X: 0, Y: 0}, {X: 1, Y: 0}, {X: 2, Y: 0}}, nil},
		{[]api.Point{{X: 0, Y: 7}, {X: 1, Y: 7}, {X: 2, Y: 7}}, []byte{7}},
		{[]api.Point{{X: 0, Y: 1}, {X: 1, Y: 0}}, []byte{1, 1}},
	} {
		if a, e := poly.Through(f, c.points); !slices.Equal(a, c.want) || e != api.OK {
			t.Errorf("Through(%v): %v, %d, not %v", c.points, a, e, c.want)
		}
		for x := range 256 {
			want := slowEval(f, c.want, byte(x))
			if v, e := poly.At(f, c.points, byte(x)); v != want || e != api.OK {
				t.Fatalf("At(%v, %d): %d, %d, not %d", c.points, x, v, e, want)
			}
		}
	}
}

// P2.3: the polynomial is found again from as many points as it has coefficients, or more, in any order; it is trimmed.
func TestThrough(t *testing.T) {
	f, r := gf.New(), random()
	for range 1000 {
		want := slowTrim(randomPoly(r, 10))
		l := points(f, want, randomPositions(r, len(want)+r.IntN(4))...)
		if a, e := poly.Through(f, l); !slices.Equal(a, want) || e != api.OK {
			t.Fatalf("Through(%v): %v, %d, not %v", l, a, e, want)
		}
		x := byte(r.IntN(256))
		if v, e := poly.At(f, l, x); v != slowEval(f, want, x) || e != api.OK {
			t.Fatalf("At(%v, %d): %d, %d", l, x, v, e)
		}
	}
}

// P2.3: any values at all, at any number of positions, up to each element once.
func TestThroughAnyValues(t *testing.T) {
	f, r := gf.New(), random()
	for _, many := range []int{1, 2, 3, 5, 17, 100, 255, 256} {
		var l []api.Point
		for _, x := range randomPositions(r, many) {
			l = append(l, api.Point{X: x, Y: byte(r.IntN(256))})
		}
		a, e := poly.Through(f, l)
		if e != api.OK || len(a) > many || !isTrimmed(a) {
			t.Fatalf("Through of %d points: %v, %d", many, a, e)
		}
		for _, p := range l {
			if v := slowEval(f, a, p.X); v != p.Y {
				t.Errorf("Through of %d points: %d at %d, not %d", many, v, p.X, p.Y)
			}
			if v, e := poly.At(f, l, p.X); v != p.Y || e != api.OK {
				t.Errorf("At of %d points, %d: %d, %d, not %d", many, p.X, v, e, p.Y)
			}
		}
	}
}

// P2.3 and R2: two points with the same X, with the same value or with another, wherever they stand.
func TestThroughSame(t *testing.T) {
	f := gf.New()
	check := func(l []api.Point) {
		t.Helper()
		if a, e := poly.Through(f, l); len(a) != 0 || e != api.ErrArg {
			t.Errorf("Through(%v): %v, %d", l, a, e)
		}
		for _, x := range []byte{0, 1, 7, 255} {
			if v, e := poly.At(f, l, x); v != 0 || e != api.ErrArg {
				t.Errorf("At(%v, %d): %d, %d", l, x, v, e)
			}
		}
	}
	check([]api.Point{{X: 0, Y: 0}, {X: 0, Y: 0}})
	check([]api.Point{{X: 7, Y: 1}, {X: 7, Y: 1}})
	check([]api.Point{{X: 7, Y: 1}, {X: 7, Y: 2}})
	for first := range 6 {
		for second := range first {
			l := points(f, []byte{3, 0, 8}, 0, 1, 7, 9, 254, 255)
			l[first].X = l[second].X
			check(l)
			l[first].Y = l[second].Y
			check(l)
		}
	}
	all := points(f, []byte{1, 2, 3}, randomPositions(random(), 256)...)
	check(append(all, all[255]))
	check(append(all, all[0]))
}

// backed is a slice whose memory goes on beyond its length, with bytes that are not 0.
func backed[T any](l []T, beyond ...T) []T {
	return append(slices.Clone(l), beyond...)[:len(l)]
}

// R3: arguments are not modified, what is beyond their lengths is neither read nor written, and results are new memory.
func TestMemory(t *testing.T) {
	f := gf.New()
	a, b := backed([]byte{1, 2, 3, 0}, 4, 5), backed([]byte{6, 7, 0}, 8, 9)
	l := backed([]api.Point{{X: 1, Y: 1}, {X: 2, Y: 2}}, api.Point{X: 1, Y: 5})
	wholeA, wholeB, wholeL := slices.Clone(a[:6]), slices.Clone(b[:5]), slices.Clone(l[:3])

	call := func() [][]byte {
		if poly.Degree(a) != 2 || poly.Eval(f, a, 1) != 0 {
			t.Error("Degree, Eval: another result")
		}
		if v, e := poly.At(f, l, 77); v != 77 || e != api.OK {
			t.Errorf("At: %d, %d", v, e)
		}
		q, r, _ := poly.Divide(f, a, b)
		left, whole, _ := poly.Divide(f, b, a)
		through, _ := poly.Through(f, l)
		return [][]byte{poly.Trim(a), poly.Trim(a[:3]), poly.Add(a, b), poly.Add(a, nil), poly.Add(nil, b),
			poly.Mul(f, a, b), poly.Mul(f, a, []byte{1}), poly.Mul(f, []byte{1}, b), q, r, left, whole, through}
	}
	first := call()
	var kept [][]byte
	for _, result := range first {
		kept = append(kept, slices.Clone(result))
	}
	for _, result := range first {
		result = result[:cap(result)]
		for i := range result {
			result[i] = 0xee
		}
	}
	if !slices.Equal(a[:6], wholeA) || !slices.Equal(b[:5], wholeB) || !slices.Equal(l[:3], wholeL) {
		t.Errorf("arguments were modified: %v, %v, %v", a[:6], b[:5], l[:3])
	}
	for i, result := range call() {
		if !slices.Equal(result, kept[i]) {
			t.Errorf("result %d: %v the second time, not %v", i, result, kept[i])
		}
	}
}

// R3: the two results of a division share no memory either.
func TestDivideResultsApart(t *testing.T) {
	f := gf.New()
	q, r, _ := poly.Divide(f, []byte{9, 8, 7, 6, 5}, []byte{1, 2, 3})
	want := slices.Clone(r)
	q = q[:cap(q)]
	for i := range q {
		q[i] ^= 0xff
	}
	if !slices.Equal(r, want) {
		t.Errorf("what is left changed with the quotient: %v, not %v", r, want)
	}
}

// R4: a nil slice and an empty one are the same.
func TestNilEmpty(t *testing.T) {
	f := gf.New()
	some := []byte{1, 2}
	for _, none := range [][]byte{nil, {}} {
		if poly.Degree(none) != -1 || len(poly.Trim(none)) != 0 || poly.Eval(f, none, 3) != 0 {
			t.Error("Degree, Trim, Eval of no coefficients")
		}
		if !slices.Equal(poly.Add(none, some), some) || !slices.Equal(poly.Add(some, none), some) {
			t.Error("Add of no coefficients")
		}
		if len(poly.Mul(f, none, some)) != 0 || len(poly.Mul(f, some, none)) != 0 {
			t.Error("Mul of no coefficients")
		}
		if q, r, e := poly.Divide(f, none, some); len(q) != 0 || len(r) != 0 || e != api.OK {
			t.Errorf("Divide of no coefficients: %v, %v, %d", q, r, e)
		}
	}
	for _, none := range [][]api.Point{nil, {}} {
		if a, e := poly.Through(f, none); len(a) != 0 || e != api.OK {
			t.Errorf("Through no points: %v, %d", a, e)
		}
		if v, e := poly.At(f, none, 3); v != 0 || e != api.OK {
			t.Errorf("At of no points: %d, %d", v, e)
		}
	}
}
