package alu

import (
	"fmt"
	"strconv"
	"testing"
)

// The tests of this file go through all arguments, or nearly all, and work the
// answers out in another way than the package does.

// flagsOf returns the flags whose letters are named if they are set.
func flagsOf(zero, negative, half, carry bool) (f byte) {
	for _, x := range []struct {
		set bool
		bit byte
	}{{zero, z}, {negative, n}, {half, h}, {carry, c}} {
		if x.set {
			f += x.bit
		}
	}
	return f
}

// modulo returns x modulo m, as a number from 0 to m - 1.
func modulo(x, m int) int { return (x%m + m) % m }

// atAllBytes calls check with all pairs of a byte and flags.
func atAllBytes(check func(a, flags int)) {
	for a := range 256 {
		for flags := range 256 {
			check(a, flags)
		}
	}
}

func TestAllSumsAndDifferences(t *testing.T) {
	atAllBytes(func(a, b int) {
		for carry := range 2 {
			r, f := Add(byte(a), byte(b), carry == 1)
			wantR := modulo(a+b+carry, 256)
			wantF := flagsOf(wantR == 0, false, a%16+b%16+carry > 15, a+b+carry > 255)
			if int(r) != wantR || f != wantF {
				t.Errorf("Add(%02x, %02x, %d) = %02x, %02x, want %02x, %02x", a, b, carry, r, f, wantR, wantF)
			}
			r, f = Sub(byte(a), byte(b), carry == 1)
			wantR = modulo(a-b-carry, 256)
			wantF = flagsOf(wantR == 0, true, a%16 < b%16+carry, a < b+carry)
			if int(r) != wantR || f != wantF {
				t.Errorf("Sub(%02x, %02x, %d) = %02x, %02x, want %02x, %02x", a, b, carry, r, f, wantR, wantF)
			}
		}
	})
}

// bitwise returns the byte whose bits choose takes from how many of a and b have them.
func bitwise(a, b int, choose func(count int) bool) (r int) {
	for bit := 1; bit < 256; bit *= 2 {
		if choose(a/bit%2 + b/bit%2) {
			r += bit
		}
	}
	return r
}

func TestAllLogic(t *testing.T) {
	for _, x := range []struct {
		name   string
		call   func(a, b byte) (r, f byte)
		choose func(count int) bool
		half   bool
	}{
		{"And", And, func(count int) bool { return count == 2 }, true},
		{"Or", Or, func(count int) bool { return count > 0 }, false},
		{"Xor", Xor, func(count int) bool { return count == 1 }, false},
	} {
		atAllBytes(func(a, b int) {
			r, f := x.call(byte(a), byte(b))
			wantR := bitwise(a, b, x.choose)
			wantF := flagsOf(wantR == 0, false, x.half, false)
			if int(r) != wantR || f != wantF {
				t.Errorf("%s(%02x, %02x) = %02x, %02x, want %02x, %02x", x.name, a, b, r, f, wantR, wantF)
			}
		})
	}
}

func TestAllIncAndDec(t *testing.T) {
	atAllBytes(func(a, flags int) {
		carry := flags/c%2 == 1
		r, f := Inc(byte(a), byte(flags))
		wantR := modulo(a+1, 256)
		wantF := flagsOf(wantR == 0, false, a%16 == 15, carry)
		if int(r) != wantR || f != wantF {
			t.Errorf("Inc(%02x, %02x) = %02x, %02x, want %02x, %02x", a, flags, r, f, wantR, wantF)
		}
		r, f = Dec(byte(a), byte(flags))
		wantR = modulo(a-1, 256)
		wantF = flagsOf(wantR == 0, true, a%16 == 0, carry)
		if int(r) != wantR || f != wantF {
			t.Errorf("Dec(%02x, %02x) = %02x, %02x, want %02x, %02x", a, flags, r, f, wantR, wantF)
		}
	})
}

// adjusted is what the document says of Daa, sentence by sentence.
func adjusted(a, flags int) (r int, f byte) {
	negative, half, carry := flags/n%2 == 1, flags/h%2 == 1, flags/c%2 == 1
	r, out := a, carry
	if !negative && (half || a%16 > 9) {
		r += 0x06
	}
	if !negative && (carry || a > 0x99) {
		r += 0x60
		out = true
	}
	if negative && half {
		r -= 0x06
	}
	if negative && carry {
		r -= 0x60
	}
	r = modulo(r, 256)
	return r, flagsOf(r == 0, negative, false, out)
}

func TestAllDaa(t *testing.T) {
	atAllBytes(func(a, flags int) {
		r, f := Daa(byte(a), byte(flags))
		if wantR, wantF := adjusted(a, flags); int(r) != wantR || f != wantF {
			t.Errorf("Daa(%02x, %02x) = %02x, %02x, want %02x, %02x", a, flags, r, f, wantR, wantF)
		}
	})
}

// decimal returns a number below 100 as two decimal digits.
func decimal(x int) byte { return byte(x/10*16 + x%10) }

// TestDecimals holds Daa against what it is there for.
func TestDecimals(t *testing.T) {
	for x := range 100 {
		for y := range 100 {
			for carry := range 2 {
				r, f := Daa(Add(decimal(x), decimal(y), carry == 1))
				sum := x + y + carry
				if r != decimal(modulo(sum, 100)) || f != flagsOf(r == 0, false, false, sum > 99) {
					t.Errorf("%d + %d + %d: %02x, %02x", x, y, carry, r, f)
				}
				r, f = Daa(Sub(decimal(x), decimal(y), carry == 1))
				rest := x - y - carry
				if r != decimal(modulo(rest, 100)) || f != flagsOf(r == 0, true, false, rest < 0) {
					t.Errorf("%d - %d - %d: %02x, %02x", x, y, carry, r, f)
				}
			}
		}
	}
}

// turned is the table of Turn in the document, on the eight digits of a.
func turned(kind int, bits, carry string) (r, out string) {
	first, last := bits[:1], bits[7:]
	switch kind {
	case 0:
		return bits[1:] + first, first
	case 1:
		return last + bits[:7], last
	case 2:
		return bits[1:] + carry, first
	case 3:
		return carry + bits[:7], last
	case 4:
		return bits[1:] + "0", first
	case 5:
		return first + bits[:7], last
	case 6:
		return bits[4:] + bits[:4], "0"
	}
	return "0" + bits[:7], last
}

func TestAllTurns(t *testing.T) {
	for kind := -17; kind <= 17; kind++ {
		atAllBytes(func(a, flags int) {
			r, f := Turn(kind, byte(a), byte(flags))
			bits, out := turned(modulo(kind, 8), fmt.Sprintf("%08b", a), strconv.Itoa(flags/c%2))
			wantF := flagsOf(bits == "00000000", false, false, out == "1")
			if fmt.Sprintf("%08b", r) != bits || f != wantF {
				t.Errorf("Turn(%d, %02x, %02x) = %08b, %02x, want %s, %02x", kind, a, flags, r, f, bits, wantF)
			}
		})
	}
}

func TestAllBits(t *testing.T) {
	for number := -17; number <= 17; number++ {
		atAllBytes(func(a, flags int) {
			clear := fmt.Sprintf("%08b", a)[7-modulo(number, 8)] == '0'
			want := flagsOf(clear, false, true, flags/c%2 == 1)
			if f := Bit(number, byte(a), byte(flags)); f != want {
				t.Errorf("Bit(%d, %02x, %02x) = %02x, want %02x", number, a, flags, f, want)
			}
		})
	}
}

// words returns words at and beside all powers of two, and some between.
func words() (l []int) {
	for bit := 1; bit <= 65536; bit *= 2 {
		l = append(l, modulo(bit-1, 65536), modulo(bit, 65536), modulo(bit+1, 65536), 65536-bit)
	}
	for x := 0; x < 65536; x += 97 {
		l = append(l, x)
	}
	return l
}

func TestManyWords(t *testing.T) {
	l := words()
	for i, a := range l {
		for j, b := range l {
			flags := modulo(31*i+17*j, 256)
			r, f := Add16(uint16(a), uint16(b), byte(flags))
			wantR := modulo(a+b, 65536)
			wantF := flagsOf(flags/z%2 == 1, false, a%4096+b%4096 > 4095, a+b > 65535)
			if int(r) != wantR || f != wantF {
				t.Errorf("Add16(%04x, %04x, %02x) = %04x, %02x, want %04x, %02x", a, b, flags, r, f, wantR, wantF)
			}
		}
	}
}

func TestAllFlagsOfAdd16(t *testing.T) {
	for flags := range 256 {
		for _, x := range []struct {
			a, b, r uint16
			f       byte
		}{{1, 2, 3, 0}, {0x0fff, 1, 0x1000, h}, {0xffff, 1, 0, h | c}, {0x8000, 0x8000, 0, c}} {
			want := x.f + byte(flags/z*z)
			if r, f := Add16(x.a, x.b, byte(flags)); r != x.r || f != want {
				t.Errorf("Add16(%04x, %04x, %02x) = %04x, %02x, want %04x, %02x", x.a, x.b, flags, r, f, x.r, want)
			}
		}
	}
}

func TestAllShifts(t *testing.T) {
	for a := range 65536 {
		for signed := -128; signed <= 127; signed++ {
			e := modulo(signed, 256)
			r, f := Shift16(uint16(a), byte(e))
			wantR := modulo(a+signed, 65536)
			wantF := flagsOf(false, false, a%16+e%16 > 15, a%256+e > 255)
			if int(r) != wantR || f != wantF {
				t.Fatalf("Shift16(%04x, %02x) = %04x, %02x, want %04x, %02x", a, e, r, f, wantR, wantF)
			}
		}
	}
}
