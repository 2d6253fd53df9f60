// Package alu implements the arithmetic, logic, rotate and shift operations of
// the processor and their effect on the flags: layer 1, see shared/doc/01-alu.md.
package alu

import "retrograde/api"

// Add returns a + b, plus 1 if carry is set.
func Add(a, b byte, carry bool) (r, f byte) {
	c := one(carry)
	sum := uint16(a) + uint16(b) + uint16(c)
	r = byte(sum)
	return r, zero(r) | flag(api.FlagH, low(a)+low(b)+c > 15) | flag(api.FlagC, sum > 255)
}

// Sub returns a - b, minus 1 if carry is set.
func Sub(a, b byte, carry bool) (r, f byte) {
	c := one(carry)
	r = a - b - c
	// b plus the carry may be 256, which a byte cannot hold.
	borrow := uint16(a) < uint16(b)+uint16(c)
	return r, zero(r) | api.FlagN | flag(api.FlagH, low(a) < low(b)+c) | flag(api.FlagC, borrow)
}

// And returns the bits that a and b share.
func And(a, b byte) (r, f byte) {
	r = a & b
	return r, zero(r) | api.FlagH
}

// Or returns the bits that a or b has.
func Or(a, b byte) (r, f byte) {
	r = a | b
	return r, zero(r)
}

// Xor returns the bits in which a and b differ.
func Xor(a, b byte) (r, f byte) {
	r = a ^ b
	return r, zero(r)
}

// Inc returns a + 1; unlike Add, it keeps the flag C.
func Inc(a, flags byte) (r, f byte) {
	r = a + 1
	return r, zero(r) | flag(api.FlagH, low(a) == 15) | flags&api.FlagC
}

// Dec returns a - 1; unlike Sub, it keeps the flag C.
func Dec(a, flags byte) (r, f byte) {
	r = a - 1
	return r, zero(r) | api.FlagN | flag(api.FlagH, low(a) == 0) | flags&api.FlagC
}

// Daa adjusts a after the addition or subtraction of binary coded decimals.
func Daa(a, flags byte) (r, f byte) {
	if flags&api.FlagN != 0 {
		r = a - correction(flags&api.FlagH != 0, flags&api.FlagC != 0)
		return r, zero(r) | api.FlagN | flags&api.FlagC
	}
	tens := flags&api.FlagC != 0 || a > 0x99
	r = a + correction(flags&api.FlagH != 0 || low(a) > 9, tens)
	return r, zero(r) | flag(api.FlagC, tens)
}

// correction returns what skips the six codes of a digit that are no decimals,
// in the lower digit, in the upper one, or in both.
func correction(ones, tens bool) byte {
	return one(ones)*0x06 + one(tens)*0x60
}

// Turn rotates, shifts or swaps a, by one of eight kinds.
func Turn(kind int, a, flags byte) (r, f byte) {
	carry := one(flags&api.FlagC != 0)
	var in, out byte
	// The lower three bits are the kind modulo 8 for negative numbers, too.
	switch kind & 7 {
	case 0:
		// A rotation is a shift through the carry with the bit that leaves as carry.
		carry = a >> 7
		fallthrough
	case 2:
		in = carry
		fallthrough
	case 4:
		r, out = a<<1|in, a>>7
	case 1:
		carry = a & 1
		fallthrough
	case 3:
		in = carry << 7
		fallthrough
	case 7:
		r, out = a>>1|in, a&1
	case 5:
		r, out = a>>1|a&0x80, a&1
	case 6:
		r = a<<4 | a>>4
	}
	return r, zero(r) | flag(api.FlagC, out != 0)
}

// Bit returns the flags of a test of bit n of a.
func Bit(n int, a, flags byte) byte {
	return zero(a>>(n&7)&1) | api.FlagH | flags&api.FlagC
}

// Add16 returns a + b; unlike Add, it keeps the flag Z.
func Add16(a, b uint16, flags byte) (r uint16, f byte) {
	sum := uint32(a) + uint32(b)
	half := a&0xfff+b&0xfff > 0xfff
	return uint16(sum), flags&api.FlagZ | flag(api.FlagH, half) | flag(api.FlagC, sum > 0xffff)
}

// Shift16 returns a plus the signed byte e, with the flags of the unsigned sum
// of the lower bytes.
func Shift16(a uint16, e byte) (r uint16, f byte) {
	_, f = Add(byte(a), e, false)
	return a + uint16(int8(e)), f & (api.FlagH | api.FlagC)
}

// flag returns the flag if it is set, and no flag otherwise.
func flag(bit byte, set bool) byte {
	if set {
		return bit
	}
	return 0
}

// zero returns the flag Z if the result r is 0.
func zero(r byte) byte { return flag(api.FlagZ, r == 0) }

// one returns what a carry adds.
func one(carry bool) byte { return flag(1, carry) }

// low returns the lower four bits of a.
func low(a byte) byte { return a & 0x0f }
