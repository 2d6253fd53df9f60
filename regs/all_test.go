package regs

import (
	"testing"

	"retrograde/api"
)

// The tests of this file hold the functions against each other, at many
// register files.

// byteNumbers are the numbers of all byte registers.
var byteNumbers = []int{0, 1, 2, 3, 4, 5, 7}

// atManyFiles calls check with register files in which every register takes
// all values of a byte, all words of SP and PC among them.
func atManyFiles(check func(r Regs)) {
	for x := range 65536 {
		// Odd factors go through all bytes, each register on its own way.
		check(Regs{
			A: byte(x * 3), F: byte(x * 5), B: byte(x * 7), C: byte(x>>8 + x),
			D: byte(x>>8 ^ x*9), E: byte(x * 11), H: byte(x*13 + x>>4), L: byte(x * 15),
			SP: uint16(x * 40503), PC: uint16(x*30011 + 1),
		})
	}
}

// withoutLowerBits returns r as its F is in AF.
func withoutLowerBits(r Regs) Regs {
	r.F = r.F / 16 * 16
	return r
}

func TestWhatWasSetIsReturned(t *testing.T) {
	atManyFiles(func(r Regs) {
		x := r.A ^ r.E
		for _, n := range byteNumbers {
			s, e := r.Set(n, x)
			if got, _ := s.Get(n); got != x || e != api.OK {
				t.Fatalf("Get(%d) after Set(%d, %02x) of %x = %02x, %d", n, n, x, r, got, e)
			}
			for _, other := range byteNumbers {
				was, _ := r.Get(other)
				if is, _ := s.Get(other); other != n && is != was {
					t.Fatalf("Get(%d) after Set(%d, %02x) of %x = %02x, want %02x", other, n, x, r, is, was)
				}
			}
			if s.F != r.F || s.SP != r.SP || s.PC != r.PC {
				t.Fatalf("Set(%d, %02x) of %x = %x", n, x, r, s)
			}
		}
	})
}

func TestWhatPairWasSetIsReturned(t *testing.T) {
	atManyFiles(func(r Regs) {
		x := r.SP ^ r.PC
		for n := range 5 {
			want := x
			if n == 4 {
				want = x / 16 * 16
			}
			s, e := r.SetPair(n, x)
			if got, _ := s.Pair(n); got != want || e != api.OK {
				t.Fatalf("Pair(%d) after SetPair(%d, %04x) of %x = %04x, %d, want %04x", n, n, x, r, got, e, want)
			}
			for other := range 5 {
				was, _ := r.Pair(other)
				if is, _ := s.Pair(other); other != n && is != was {
					t.Fatalf("Pair(%d) after SetPair(%d, %04x) of %x = %04x, want %04x", other, n, x, r, is, was)
				}
			}
			if s.PC != r.PC || n != 4 && s.F != r.F {
				t.Fatalf("SetPair(%d, %04x) of %x = %x", n, x, r, s)
			}
		}
	})
}

func TestPairIsItsTwoBytes(t *testing.T) {
	atManyFiles(func(r Regs) {
		for n := range 3 {
			x := r.SP ^ r.PC
			pair, _ := r.Pair(n)
			high, _ := r.Get(2 * n)
			low, _ := r.Get(2*n + 1)
			if int(pair) != int(high)*256+int(low) {
				t.Fatalf("Pair(%d) of %x = %04x, want %02x and %02x", n, r, pair, high, low)
			}
			whole, _ := r.SetPair(n, x)
			halves, _ := r.Set(2*n, byte(x/256))
			halves, _ = halves.Set(2*n+1, byte(x%256))
			if whole != halves {
				t.Fatalf("SetPair(%d, %04x) of %x = %x, but its bytes give %x", n, x, r, whole, halves)
			}
		}
		pair, _ := r.Pair(4)
		high, _ := r.Get(7)
		if int(pair) != int(high)*256+int(r.F)/16*16 {
			t.Fatalf("Pair(4) of %x = %04x", r, pair)
		}
	})
}

func TestDecodeInvertsEncode(t *testing.T) {
	atManyFiles(func(r Regs) {
		if got, e := Decode(r.Encode()); got != withoutLowerBits(r) || e != api.OK {
			t.Fatalf("Decode(%x) = %x, %d, want %x", r.Encode(), got, e, withoutLowerBits(r))
		}
	})
}

func TestEncodeInvertsDecode(t *testing.T) {
	for i := range size {
		for x := range 256 {
			var b [size]byte
			b[i] = byte(x)
			if i == 1 {
				b[i] = byte(x / 16 * 16)
			}
			r, e := Decode(b[:])
			if got := r.Encode(); [size]byte(got) != b || e != api.OK {
				t.Errorf("Encode of Decode(%x) = %x, %d", b, got, e)
			}
		}
	}
}

func TestMethodsChangeNothing(t *testing.T) {
	atManyFiles(func(r Regs) {
		before := r
		for n := -1; n <= 8; n++ {
			r.Get(n)
			r.Set(n, ^r.A)
			r.Pair(n)
			r.SetPair(n, ^r.SP)
			r.Is(n)
		}
		r.Encode()
		if r != before {
			t.Fatalf("the methods changed %x to %x", before, r)
		}
	})
}

func TestConditionsExcludeEachOther(t *testing.T) {
	for f := range 256 {
		r := Regs{F: byte(f)}
		if r.Is(0) == r.Is(1) || r.Is(2) == r.Is(3) || !r.Is(4) {
			t.Errorf("conditions with F %02x: %t %t %t %t %t", f, r.Is(0), r.Is(1), r.Is(2), r.Is(3), r.Is(4))
		}
		if r.Is(1) != (f/0x80%2 == 1) || r.Is(3) != (f/0x10%2 == 1) {
			t.Errorf("conditions with F %02x: Z %t, C %t", f, r.Is(1), r.Is(3))
		}
	}
}
