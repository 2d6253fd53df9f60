package regs

import (
	"bytes"
	"math"
	"testing"

	"retrograde/api"
)

// sample has another value in each register, and all bits of F set.
var sample = Regs{
	A: 0x11, F: 0xff, B: 0x22, C: 0x33, D: 0x44, E: 0x55, H: 0x66, L: 0x77,
	SP: 0x8899, PC: 0xaabb,
}

// noBytes and noPairs are numbers that no byte register has, and that no pair
// and no condition has. Many of them would be one in fewer bits.
var (
	noBytes = []int{6, -1, -2, -7, -8, 8, 9, 14, 255, 256, 263, -256, 65536, 65543, math.MinInt, math.MinInt + 7, math.MaxInt}
	noPairs = []int{-1, -2, -4, -5, -8, 5, 6, 7, 8, 255, 256, 260, -256, 65536, 65540, math.MinInt, math.MinInt + 4, math.MaxInt}
)

func TestExample(t *testing.T) {
	r, e := Regs{}.Set(0, 0x12)
	if e != api.OK {
		t.Fatalf("Set(0): %d", e)
	}
	r, e = r.Set(1, 0x34)
	if e != api.OK {
		t.Fatalf("Set(1): %d", e)
	}
	if x, e := r.Pair(0); x != 0x1234 || e != api.OK {
		t.Errorf("Pair(0) = %04x, %d, want 1234", x, e)
	}
}

func TestGet(t *testing.T) {
	for _, x := range []struct {
		n    int
		want byte
	}{{0, 0x22}, {1, 0x33}, {2, 0x44}, {3, 0x55}, {4, 0x66}, {5, 0x77}, {7, 0x11}} {
		if got, e := sample.Get(x.n); got != x.want || e != api.OK {
			t.Errorf("Get(%d) = %02x, %d, want %02x", x.n, got, e, x.want)
		}
	}
}

func TestSet(t *testing.T) {
	for _, x := range []struct {
		n    int
		want Regs
	}{
		{0, Regs{0x11, 0xff, 0xcc, 0x33, 0x44, 0x55, 0x66, 0x77, 0x8899, 0xaabb}},
		{1, Regs{0x11, 0xff, 0x22, 0xcc, 0x44, 0x55, 0x66, 0x77, 0x8899, 0xaabb}},
		{2, Regs{0x11, 0xff, 0x22, 0x33, 0xcc, 0x55, 0x66, 0x77, 0x8899, 0xaabb}},
		{3, Regs{0x11, 0xff, 0x22, 0x33, 0x44, 0xcc, 0x66, 0x77, 0x8899, 0xaabb}},
		{4, Regs{0x11, 0xff, 0x22, 0x33, 0x44, 0x55, 0xcc, 0x77, 0x8899, 0xaabb}},
		{5, Regs{0x11, 0xff, 0x22, 0x33, 0x44, 0x55, 0x66, 0xcc, 0x8899, 0xaabb}},
		{7, Regs{0xcc, 0xff, 0x22, 0x33, 0x44, 0x55, 0x66, 0x77, 0x8899, 0xaabb}},
	} {
		if got, e := sample.Set(x.n, 0xcc); got != x.want || e != api.OK {
			t.Errorf("Set(%d) = %x, %d, want %x", x.n, got, e, x.want)
		}
	}
}

func TestNoByteRegister(t *testing.T) {
	for _, n := range noBytes {
		if got, e := sample.Get(n); got != 0 || e != api.ErrArg {
			t.Errorf("Get(%d) = %02x, %d, want 0 and ErrArg", n, got, e)
		}
		if got, e := sample.Set(n, 0xcc); got != (Regs{}) || e != api.ErrArg {
			t.Errorf("Set(%d) = %x, %d, want no registers and ErrArg", n, got, e)
		}
	}
}

func TestPair(t *testing.T) {
	for n, want := range []uint16{0x2233, 0x4455, 0x6677, 0x8899, 0x11f0} {
		if got, e := sample.Pair(n); got != want || e != api.OK {
			t.Errorf("Pair(%d) = %04x, %d, want %04x", n, got, e, want)
		}
	}
}

func TestSetPair(t *testing.T) {
	for n, want := range []Regs{
		{0x11, 0xff, 0xcd, 0xef, 0x44, 0x55, 0x66, 0x77, 0x8899, 0xaabb},
		{0x11, 0xff, 0x22, 0x33, 0xcd, 0xef, 0x66, 0x77, 0x8899, 0xaabb},
		{0x11, 0xff, 0x22, 0x33, 0x44, 0x55, 0xcd, 0xef, 0x8899, 0xaabb},
		{0x11, 0xff, 0x22, 0x33, 0x44, 0x55, 0x66, 0x77, 0xcdef, 0xaabb},
		{0xcd, 0xe0, 0x22, 0x33, 0x44, 0x55, 0x66, 0x77, 0x8899, 0xaabb},
	} {
		if got, e := sample.SetPair(n, 0xcdef); got != want || e != api.OK {
			t.Errorf("SetPair(%d) = %x, %d, want %x", n, got, e, want)
		}
	}
}

func TestNoPair(t *testing.T) {
	for _, n := range noPairs {
		if got, e := sample.Pair(n); got != 0 || e != api.ErrArg {
			t.Errorf("Pair(%d) = %04x, %d, want 0 and ErrArg", n, got, e)
		}
		if got, e := sample.SetPair(n, 0xcdef); got != (Regs{}) || e != api.ErrArg {
			t.Errorf("SetPair(%d) = %x, %d, want no registers and ErrArg", n, got, e)
		}
	}
}

func TestIs(t *testing.T) {
	for _, x := range []struct {
		f    byte
		want [5]bool
	}{
		{0x00, [5]bool{true, false, true, false, true}},
		{api.FlagZ, [5]bool{false, true, true, false, true}},
		{api.FlagC, [5]bool{true, false, false, true, true}},
		{api.FlagZ | api.FlagC, [5]bool{false, true, false, true, true}},
		{api.FlagN | api.FlagH | 0x0f, [5]bool{true, false, true, false, true}},
		{0xff, [5]bool{false, true, false, true, true}},
	} {
		r := Regs{F: x.f}
		for cond, want := range x.want {
			if got := r.Is(cond); got != want {
				t.Errorf("Is(%d) with F %02x = %t, want %t", cond, x.f, got, want)
			}
		}
		for _, cond := range noPairs {
			if r.Is(cond) {
				t.Errorf("Is(%d) with F %02x = true, want false", cond, x.f)
			}
		}
	}
}

func TestEncode(t *testing.T) {
	want := []byte{0x11, 0xf0, 0x22, 0x33, 0x44, 0x55, 0x66, 0x77, 0x99, 0x88, 0xbb, 0xaa}
	got := sample.Encode()
	if !bytes.Equal(got, want) {
		t.Errorf("Encode() = %x, want %x", got, want)
	}
	clear(got)
	if again := sample.Encode(); !bytes.Equal(again, want) {
		t.Errorf("Encode() = %x after the first result was changed, want %x", again, want)
	}
}

func TestDecode(t *testing.T) {
	b := []byte{0x11, 0xf0, 0x22, 0x33, 0x44, 0x55, 0x66, 0x77, 0x99, 0x88, 0xbb, 0xaa}
	before := bytes.Clone(b)
	want := sample
	want.F = 0xf0
	if got, e := Decode(b); got != want || e != api.OK {
		t.Errorf("Decode(%x) = %x, %d, want %x", b, got, e, want)
	}
	if !bytes.Equal(b, before) {
		t.Errorf("Decode changed its argument to %x", b)
	}
}

func TestDecodeOfAnotherSize(t *testing.T) {
	// The memory beyond the length would make up a register file, and must not count.
	room := bytes.Repeat([]byte{0x10}, 100)
	for length := range room {
		if length == size {
			continue
		}
		if got, e := Decode(room[:length]); got != (Regs{}) || e != api.ErrSize {
			t.Errorf("Decode of %d bytes = %x, %d, want ErrSize", length, got, e)
		}
	}
	if got, e := Decode(nil); got != (Regs{}) || e != api.ErrSize {
		t.Errorf("Decode(nil) = %x, %d, want ErrSize", got, e)
	}
	for _, length := range []int{2, 11, 13, 24} {
		b := bytes.Repeat([]byte{0xff}, length)
		if got, e := Decode(b); got != (Regs{}) || e != api.ErrSize {
			t.Errorf("Decode(%x) = %x, %d, want ErrSize, which is named first", b, got, e)
		}
	}
}

func TestDecodeOfLowerBitsOfF(t *testing.T) {
	for f := range 256 {
		b := bytes.Repeat([]byte{0xff}, size)
		b[1] = byte(f)
		got, e := Decode(b)
		if f%16 != 0 && (got != (Regs{}) || e != api.ErrKind) {
			t.Errorf("Decode with F %02x = %x, %d, want ErrKind", f, got, e)
		}
		if f%16 == 0 && (got.F != byte(f) || e != api.OK) {
			t.Errorf("Decode with F %02x = %x, %d, want that F", f, got, e)
		}
	}
}
