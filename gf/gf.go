// Package gf is layer 1: see shared/doc/01-gf.md.
package gf

import "shroud/api"

// order is how many elements other than 0 there are: the powers of 3 repeat after so many.
const order = 255

// overflow is x^8, that is what a bit that is shifted out of a byte stands for.
const overflow = 0x1b

// Field is the tables of the field with 256 elements.
type Field struct {
	powers [order]byte     // the powers of 3, by their exponents
	logs   [order + 1]byte // the exponents, by the powers; 0 is no power, and its entry means nothing
}

// New makes the tables.
func New() *Field {
	powers, logs := tables()
	return &Field{powers: powers, logs: logs}
}

func tables() (powers [order]byte, logs [order + 1]byte) {
	power := byte(1)
	for exponent := range powers {
		powers[exponent] = power
		logs[power] = byte(exponent)
		power = triple(power)
	}
	return powers, logs
}

// triple multiplies by 3, that is by x + 1, without the tables, which are made with it.
func triple(a byte) byte {
	double := a << 1
	if a&0x80 != 0 {
		double ^= overflow
	}
	return Add(double, a)
}

// Add is a sum, that is a difference, too.
func Add(a, b byte) byte { return a ^ b }

// Mul is a product.
func (f *Field) Mul(a, b byte) byte {
	if f == nil || a == 0 || b == 0 {
		return 0
	}
	return f.powers[(int(f.logs[a])+int(f.logs[b]))%order]
}

// Inv is what an element is to be multiplied by, to be 1.
func (f *Field) Inv(a byte) (byte, api.Errno) { return f.Div(1, a) }

// Div is a quotient.
func (f *Field) Div(a, b byte) (byte, api.Errno) {
	if f == nil || b == 0 {
		return 0, api.ErrArg
	}
	if a == 0 {
		return 0, api.OK
	}
	// One whole round more, so that the difference is not negative.
	return f.powers[(int(f.logs[a])+order-int(f.logs[b]))%order], api.OK
}

// Pow is a power.
func (f *Field) Pow(a byte, n uint64) byte {
	if f == nil {
		return 0
	}
	if n == 0 {
		return 1
	}
	if a == 0 {
		return 0
	}
	// The exponent is reduced ahead of the product, which would wrap round otherwise.
	return f.powers[uint64(f.logs[a])*(n%order)%order]
}

// Log is to which power 3 is to be raised, to be an element.
func (f *Field) Log(a byte) (int, api.Errno) {
	if f == nil || a == 0 {
		return 0, api.ErrArg
	}
	return int(f.logs[a]), api.OK
}
