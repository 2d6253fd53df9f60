package ppu

import (
	"bytes"
	"slices"
	"testing"

	"retrograde/api"
)

// isDecode checks the result of Decode, and that an error changes nothing.
func isDecode(t *testing.T, u *Unit, b []byte, want api.Errno) {
	t.Helper()
	before, passed := u.Encode(), slices.Clone(b)
	if got := u.Decode(b); got != want {
		t.Errorf("Decode of %d bytes = %d, want %d", len(b), got, want)
	}
	if want == api.OK {
		before = passed
	}
	isSame(t, u, before, "Decode")
	if !bytes.Equal(b, passed) {
		t.Error("Decode changed its argument")
	}
}

// TestLayout: where each part is in the encoded state.
func TestLayout(t *testing.T) {
	u := New()
	want := set{0: 0x11, 0x1fff: 0x12, oamAtByte: 0x13, oamAtByte + 159: 0x14}
	u.Write(0x8000, 0x11)
	u.Write(0x9fff, 0x12)
	u.Write(0xfe00, 0x13)
	u.Write(0xfe9f, 0x14)
	for n, addr := range registerAddresses() {
		u.Write(addr, byte(0x7f-n))
		want[controlAtByte+n] = byte(0x7f - n)
	}
	want[controlAtByte+1] &= 0x78
	want[lineAtByte] = 0
	hasState(t, u, want)
	if got := len(u.Encode()); got != wantedBytes {
		t.Errorf("%d bytes, want %d", got, wantedBytes)
	}
}

// TestPositionLayout: the position, the frames, the signal and the picture.
func TestPositionLayout(t *testing.T) {
	u := New()
	u.Write(0xff47, 0xff)
	u.Write(0xff4b, 7)
	u.Write(0xff4a, 140)
	u.Write(0xff41, 0x08)
	u.Write(0xff40, 0xa1)
	ticks(u, 258*154*114+142*114+77)
	b := u.Encode()
	for place, want := range map[int]byte{
		controlAtByte: 0xa1, controlAtByte + 1: 8, lineAtByte: 142, dotAtByte: 77, ownAtByte: 3,
		framesAtByte: 2, framesAtByte + 1: 1, signalAtByte: 1, rowsAtByte: 3, wantedBytes - 1: 3,
	} {
		if b[place] != want {
			t.Errorf("byte %d is %d, want %d", place, b[place], want)
		}
	}
}

// TestPictureLayout: the rows of the picture are one after the other.
func TestPictureLayout(t *testing.T) {
	u := drawing()
	u.Write(0xff40, 0x91)
	for line := range 144 {
		u.Write(0xff47, byte(line%4*4))
		ticks(u, 114)
	}
	b := u.Encode()
	for line := range 144 {
		want := filled(byte(line % 4))
		if !bytes.Equal(b[rowsAtByte+160*line:][:160], want[:]) {
			t.Errorf("row %d is %v", line, b[rowsAtByte+160*line:][:160])
		}
	}
}

// TestDecodeSize: every length but one is wrong, whatever the bytes are.
func TestDecodeSize(t *testing.T) {
	u := drawing()
	u.Write(0xff40, 0x91)
	ticks(u, 1000)
	whole := state(nil)
	for n := range len(whole) {
		if n%97 == 0 || n < 40 || n > len(whole)-40 {
			isDecode(t, u, whole[:n:n], api.ErrSize)
			isDecode(t, u, whole[:n], api.ErrSize)
		}
	}
	isDecode(t, u, nil, api.ErrSize)
	isDecode(t, u, make([]byte, wantedBytes+1), api.ErrSize)
	isDecode(t, u, bytes.Repeat([]byte{0xff}, wantedBytes-1), api.ErrSize)
	isDecode(t, u, bytes.Repeat([]byte{0xff}, wantedBytes+1), api.ErrSize)
	isDecode(t, u, bytes.Repeat([]byte{0xff}, wantedBytes), api.ErrKind)
	isDecode(t, u, whole, api.OK)
}

// TestDecodeKind: every byte at each place that does not allow all of them, and
// at some that do.
func TestDecodeKind(t *testing.T) {
	u := drawing()
	u.Write(0xff40, 0x91)
	ticks(u, 1000)
	before := u.Encode()
	for _, x := range []struct {
		place int
		valid func(b int) bool
	}{
		{lineAtByte, func(b int) bool { return b <= 153 }},
		{dotAtByte, func(b int) bool { return b <= 113 }},
		{controlAtByte + 1, func(b int) bool { return b|0x78 == 0x78 }},
		{signalAtByte, func(b int) bool { return b <= 1 }},
		{rowsAtByte, func(b int) bool { return b <= 3 }},
		{rowsAtByte + 9999, func(b int) bool { return b <= 3 }},
		{wantedBytes - 1, func(b int) bool { return b <= 3 }},
		{0, nil}, {0x1fff, nil}, {oamAtByte, nil}, {oamAtByte + 159, nil}, {controlAtByte, nil},
		{controlAtByte + 2, nil}, {controlAtByte + 3, nil}, {controlAtByte + 5, nil}, {controlAtByte + 6, nil},
		{controlAtByte + 7, nil}, {controlAtByte + 8, nil}, {controlAtByte + 9, nil}, {controlAtByte + 10, nil},
		{ownAtByte, nil}, {framesAtByte, nil}, {framesAtByte + 1, nil},
	} {
		for b := range 256 {
			want := api.ErrKind
			if x.valid == nil || x.valid(b) {
				want = api.OK
			}
			isDecode(t, u, state(set{x.place: byte(b)}), want)
			u.Decode(before)
		}
	}
	isSame(t, u, before, "Decode")
}

// TestDecodeShades: a shade that is none, anywhere in the picture.
func TestDecodeShades(t *testing.T) {
	u := New()
	for place := rowsAtByte; place < wantedBytes; place += 7 {
		isDecode(t, u, state(set{place: 4}), api.ErrKind)
	}
	for line := range 144 {
		isDecode(t, u, state(set{rowsAtByte + 160*line: 0x80}), api.ErrKind)
		isDecode(t, u, state(set{rowsAtByte + 160*line + 159: 0xff}), api.ErrKind)
	}
}

// TestDecodeAll: states of any kind are taken over as they are.
func TestDecodeAll(t *testing.T) {
	number := numbers(1)
	u := New()
	for range 200 {
		isDecode(t, u, anyState(number), api.OK)
	}
}

// numbers returns a function that returns other numbers in each call, the same
// in each run.
func numbers(start uint64) func(below int) int {
	x := start
	return func(below int) int {
		x = x*6364136223846793005 + 1442695040888963407
		return int(x>>33) % below
	}
}

// anyState returns an encoded state of any kind.
func anyState(number func(below int) int) []byte {
	b := make([]byte, wantedBytes)
	for place := range b {
		b[place] = byte(number(256))
	}
	b[controlAtByte+1] &= 0x78
	b[lineAtByte] %= 154
	b[dotAtByte] %= 114
	b[signalAtByte] &= 1
	for place := rowsAtByte; place < wantedBytes; place++ {
		b[place] &= 3
	}
	return b
}

// TestSharesNothing: neither the result of Encode nor the argument of Decode is
// part of the unit.
func TestSharesNothing(t *testing.T) {
	b := anyState(numbers(2))
	want := slices.Clone(b)
	u := New()
	isDecode(t, u, b, api.OK)
	clear(b)
	isSame(t, u, want, "a change of the argument")
	first, second := u.Encode(), u.Encode()
	clear(first)
	isSame(t, u, want, "a change of the result")
	if !bytes.Equal(second, want) {
		t.Error("two results share memory")
	}
	// Decode reads nothing beyond the length.
	long := append(slices.Clone(want), 0xff, 0xff)
	isDecode(t, u, long[:wantedBytes], api.OK)
	if long[wantedBytes] != 0xff {
		t.Error("Decode wrote beyond the length")
	}
}

// TestContinues: a unit with the state of another one does the same.
func TestContinues(t *testing.T) {
	number := numbers(3)
	for range 10 {
		b := anyState(number)
		b[controlAtByte] |= 0x80
		u, other := New(), drawing()
		ticks(other, 99)
		isDecode(t, u, b, api.OK)
		isDecode(t, other, b, api.OK)
		for range 2000 {
			if x := u.Tick(); x != other.Tick() {
				t.Fatal("other requests")
			}
		}
		isSame(t, u, other.Encode(), "another state before")
	}
}
