package gf_test

import (
	"math"
	"testing"

	"shroud/api"
	"shroud/gf"
)

// slowMul multiplies as the chapter's words say it: the polynomials first, then the remainder modulo x^8 + x^4 + x^3 + x + 1.
func slowMul(a, b byte) byte {
	product := 0
	for bit := range 8 {
		if b>>bit&1 == 1 {
			product ^= int(a) << bit
		}
	}
	for bit := 14; bit >= 8; bit-- {
		if product>>bit&1 == 1 {
			product ^= 0x11b << (bit - 8)
		}
	}
	return byte(product)
}

// slowPow squares and multiplies, so that no exponent is reduced.
func slowPow(a byte, n uint64) byte {
	power := byte(1)
	for bit := 63; bit >= 0; bit-- {
		power = slowMul(power, power)
		if n>>bit&1 == 1 {
			power = slowMul(power, a)
		}
	}
	return power
}

func mustInv(t *testing.T, f *gf.Field, a byte) byte {
	t.Helper()
	i, e := f.Inv(a)
	if e != api.OK {
		t.Fatalf("Inv(%#x): error %d", a, e)
	}
	return i
}

// P1.1: New.
func TestNew(t *testing.T) {
	if gf.New() == nil {
		t.Fatal("New returned nil")
	}
}

// P1.1 and DOC.md: the examples.
func TestExamples(t *testing.T) {
	f := gf.New()
	if p := f.Mul(0x57, 0x83); p != 0xc1 {
		t.Errorf("Mul(0x57, 0x83): %#x", p)
	}
	if i, e := f.Inv(2); i != 0x8d || e != api.OK {
		t.Errorf("Inv(2): %#x, %d", i, e)
	}
	if l, e := f.Log(3); l != 1 || e != api.OK {
		t.Errorf("Log(3): %d, %d", l, e)
	}
}

// P1.1: Add adds the coefficients modulo 2.
func TestAdd(t *testing.T) {
	for a := range 256 {
		for b := range 256 {
			sum := 0
			for bit := range 8 {
				sum |= (a>>bit + b>>bit) % 2 << bit
			}
			if s := gf.Add(byte(a), byte(b)); int(s) != sum {
				t.Fatalf("Add(%#x, %#x): %#x, not %#x", a, b, s, sum)
			}
		}
	}
}

// P1.1: Mul is the product of the polynomials, 0 among the factors.
func TestMul(t *testing.T) {
	f := gf.New()
	for a := range 256 {
		for b := range 256 {
			if p, want := f.Mul(byte(a), byte(b)), slowMul(byte(a), byte(b)); p != want {
				t.Fatalf("Mul(%#x, %#x): %#x, not %#x", a, b, p, want)
			}
		}
	}
}

// P1.1: Inv, and its error for 0.
func TestInv(t *testing.T) {
	f := gf.New()
	if i, e := f.Inv(0); i != 0 || e != api.ErrArg {
		t.Errorf("Inv(0): %#x, %d", i, e)
	}
	for a := 1; a < 256; a++ {
		if p := slowMul(byte(a), mustInv(t, f, byte(a))); p != 1 {
			t.Errorf("%#x times Inv of it: %#x", a, p)
		}
	}
}

// P1.1: Div, and its error for 0 whatever is divided.
func TestDiv(t *testing.T) {
	f := gf.New()
	for a := range 256 {
		if d, e := f.Div(byte(a), 0); d != 0 || e != api.ErrArg {
			t.Errorf("Div(%#x, 0): %#x, %d", a, d, e)
		}
		for b := 1; b < 256; b++ {
			d, e := f.Div(byte(a), byte(b))
			if e != api.OK || slowMul(d, byte(b)) != byte(a) {
				t.Fatalf("Div(%#x, %#x): %#x, %d", a, b, d, e)
			}
		}
	}
}

// P1.1: Pow is a product of n factors, beyond where the powers repeat; 1 for n = 0, even for 0.
func TestPow(t *testing.T) {
	f := gf.New()
	for a := range 256 {
		product := byte(1)
		for n := range uint64(600) {
			if p := f.Pow(byte(a), n); p != product {
				t.Fatalf("Pow(%#x, %d): %#x, not %#x", a, n, p, product)
			}
			product = slowMul(product, byte(a))
		}
	}
}

// P1.1: Pow for great exponents: multiples of 255, and exponents whose product with a logarithm is no uint64.
func TestPowGreat(t *testing.T) {
	f := gf.New()
	exponents := []uint64{
		math.MaxUint32 - 1, math.MaxUint32, math.MaxUint32 + 1,
		255 << 40, 255<<40 + 1, 255<<56 - 1,
		math.MaxUint64/255 - 1, math.MaxUint64 / 255, math.MaxUint64/255 + 1,
		math.MaxInt64, 1 << 63, 1<<63 + 1,
		0x0123456789abcdef, math.MaxUint64 - 255, math.MaxUint64 - 1, math.MaxUint64,
	}
	for a := range 256 {
		for _, n := range exponents {
			if p, want := f.Pow(byte(a), n), slowPow(byte(a), n); p != want {
				t.Errorf("Pow(%#x, %d): %#x, not %#x", a, n, p, want)
			}
		}
	}
}

// P1.1: Log is the exponent from 0 to 254, and an error for 0.
func TestLog(t *testing.T) {
	f := gf.New()
	if l, e := f.Log(0); l != 0 || e != api.ErrArg {
		t.Errorf("Log(0): %d, %d", l, e)
	}
	power := byte(1)
	for exponent := range 255 {
		if l, e := f.Log(power); l != exponent || e != api.OK {
			t.Errorf("Log(%#x): %d, %d, not %d", power, l, e, exponent)
		}
		power = slowMul(power, 3)
	}
}

// P1.2: 0 and 1 are the neutral elements, on either side.
func TestNeutral(t *testing.T) {
	f := gf.New()
	for x := range 256 {
		a := byte(x)
		if gf.Add(a, 0) != a || gf.Add(0, a) != a {
			t.Errorf("0 is not neutral for %#x", a)
		}
		if f.Mul(a, 1) != a || f.Mul(1, a) != a {
			t.Errorf("1 is not neutral for %#x", a)
		}
	}
}

// P1.2: each element has a negative, and each but 0 an inverse.
func TestInverses(t *testing.T) {
	f := gf.New()
	for x := range 256 {
		a := byte(x)
		negatives := 0
		for y := range 256 {
			if gf.Add(a, byte(y)) == 0 {
				negatives++
			}
		}
		if negatives != 1 {
			t.Errorf("%#x has %d negatives", a, negatives)
		}
		if a != 0 && f.Mul(a, mustInv(t, f, a)) != 1 {
			t.Errorf("%#x times Inv of it is not 1", a)
		}
	}
}

// P1.2: sums and products are commutative.
func TestCommutative(t *testing.T) {
	f := gf.New()
	for x := range 256 {
		for y := range x {
			a, b := byte(x), byte(y)
			if gf.Add(a, b) != gf.Add(b, a) || f.Mul(a, b) != f.Mul(b, a) {
				t.Fatalf("%#x, %#x: not commutative", a, b)
			}
		}
	}
}

// P1.2: sums and products are associative, and products distribute over sums, for all triples.
func TestAssociativeDistributive(t *testing.T) {
	f := gf.New()
	for x := range 256 {
		for y := range 256 {
			a, b := byte(x), byte(y)
			sum, product := gf.Add(a, b), f.Mul(a, b)
			for z := range 256 {
				c := byte(z)
				if gf.Add(sum, c) != gf.Add(a, gf.Add(b, c)) {
					t.Fatalf("%#x, %#x, %#x: sums are not associative", a, b, c)
				}
				if f.Mul(product, c) != f.Mul(a, f.Mul(b, c)) {
					t.Fatalf("%#x, %#x, %#x: products are not associative", a, b, c)
				}
				if f.Mul(sum, c) != gf.Add(f.Mul(a, c), f.Mul(b, c)) {
					t.Fatalf("%#x, %#x, %#x: not distributive", a, b, c)
				}
			}
		}
	}
}

// P1.3: a nil field, for arguments that are valid otherwise, too.
func TestNil(t *testing.T) {
	var f *gf.Field
	for x := range 256 {
		a := byte(x)
		for y := range 256 {
			b := byte(y)
			if p := f.Mul(a, b); p != 0 {
				t.Fatalf("Mul(%#x, %#x): %#x", a, b, p)
			}
			if d, e := f.Div(a, b); d != 0 || e != api.ErrArg {
				t.Fatalf("Div(%#x, %#x): %#x, %d", a, b, d, e)
			}
		}
		for _, n := range []uint64{0, 1, 2, 255, math.MaxUint64} {
			if p := f.Pow(a, n); p != 0 {
				t.Errorf("Pow(%#x, %d): %#x", a, n, p)
			}
		}
		if i, e := f.Inv(a); i != 0 || e != api.ErrArg {
			t.Errorf("Inv(%#x): %#x, %d", a, i, e)
		}
		if l, e := f.Log(a); l != 0 || e != api.ErrArg {
			t.Errorf("Log(%#x): %d, %d", a, l, e)
		}
	}
}

// R2 and R6: a call, failed or not, leaves a field as it was, and other fields, too.
func TestCallsLeaveNothing(t *testing.T) {
	used, other := gf.New(), gf.New()
	for x := range 256 {
		a := byte(x)
		used.Inv(0)
		used.Div(a, 0)
		used.Log(0)
		used.Mul(a, a)
		used.Pow(a, math.MaxUint64)
	}
	fresh := gf.New()
	for x := range 256 {
		for y := range 256 {
			a, b := byte(x), byte(y)
			want := fresh.Mul(a, b)
			if used.Mul(a, b) != want || other.Mul(a, b) != want {
				t.Fatalf("Mul(%#x, %#x) depends on the field's earlier calls", a, b)
			}
		}
	}
}
