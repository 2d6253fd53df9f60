package ppu

import (
	"bytes"
	"maps"
	"math"
	"testing"

	"retrograde/api"
)

// The places of an encoded state, counted from the chapter.
const (
	oamAtByte     = 0x2000
	controlAtByte = 0x2000 + 160
	lineAtByte    = controlAtByte + 4
	dotAtByte     = controlAtByte + 11
	ownAtByte     = dotAtByte + 1
	framesAtByte  = dotAtByte + 2
	signalAtByte  = dotAtByte + 4
	rowsAtByte    = dotAtByte + 5
	wantedBytes   = 0x2000 + 160 + 11 + 5 + 144*160
)

// registerAddresses are those of the eleven registers.
func registerAddresses() []uint16 {
	return []uint16{0xff40, 0xff41, 0xff42, 0xff43, 0xff44, 0xff45, 0xff47, 0xff48, 0xff49, 0xff4a, 0xff4b}
}

// set is some bytes of an encoded state.
type set map[int]byte

// state returns the encoded state whose bytes are 0 but for some.
func state(some set) []byte {
	b := make([]byte, wantedBytes)
	for place, x := range some {
		b[place] = x
	}
	return b
}

// unitOf returns a unit with the encoded state whose bytes are 0 but for some.
func unitOf(t *testing.T, some set) *Unit {
	t.Helper()
	u := New()
	if e := u.Decode(state(some)); e != api.OK {
		t.Fatalf("Decode of %v = %d", some, e)
	}
	return u
}

// ticks lets a unit advance by some cycles, and returns all requests.
func ticks(u *Unit, n int) byte {
	var requests byte
	for range n {
		requests |= u.Tick()
	}
	return requests
}

// isTick checks the result of Tick.
func isTick(t *testing.T, u *Unit, want byte) {
	t.Helper()
	if got := u.Tick(); got != want {
		t.Errorf("Tick to line %d, cycle %d = %d, want %d", u.Line(), u.Dot(), got, want)
	}
}

// isAt checks the position.
func isAt(t *testing.T, u *Unit, line, dot, mode int) {
	t.Helper()
	if u.Line() != line || u.Dot() != dot || u.Mode() != mode {
		t.Errorf("line %d, cycle %d, mode %d, want %d, %d, %d", u.Line(), u.Dot(), u.Mode(), line, dot, mode)
	}
}

// isWrite checks the result of Write.
func isWrite(t *testing.T, u *Unit, addr uint16, x, want byte) {
	t.Helper()
	if got := u.Write(addr, x); got != want {
		t.Errorf("Write(%04x, %02x) = %d, want %d", addr, x, got, want)
	}
}

// isPeek checks the result of Peek.
func isPeek(t *testing.T, u *Unit, addr uint16, want byte) {
	t.Helper()
	if got := u.Peek(addr); got != want {
		t.Errorf("Peek(%04x) in mode %d = %02x, want %02x", addr, u.Mode(), got, want)
	}
}

// isRead checks the result of Read.
func isRead(t *testing.T, u *Unit, addr uint16, want byte) {
	t.Helper()
	if got := u.Read(addr); got != want {
		t.Errorf("Read(%04x) in mode %d = %02x, want %02x", addr, u.Mode(), got, want)
	}
}

// hasState checks which bytes of the encoded state are not 0.
func hasState(t *testing.T, u *Unit, some set) {
	t.Helper()
	got := set{}
	for place, x := range u.Encode() {
		if x != 0 {
			got[place] = x
		}
	}
	want := maps.Clone(some)
	maps.DeleteFunc(want, func(_ int, x byte) bool { return x == 0 })
	if !maps.Equal(got, want) {
		t.Errorf("the state has %v, want %v", got, want)
	}
}

// isSame checks that a unit is in an encoded state.
func isSame(t *testing.T, u *Unit, want []byte, what string) {
	t.Helper()
	if !bytes.Equal(u.Encode(), want) {
		t.Errorf("%s changed the unit", what)
	}
}

func TestRequests(t *testing.T) {
	if Blank != 1 || Stat != 2 {
		t.Errorf("Blank %d, Stat %d", Blank, Stat)
	}
}

// TestExample: the example of the chapter.
func TestExample(t *testing.T) {
	u := New()
	isWrite(t, u, 0xff40, 0x80, 0)
	if ticks(u, 113) != 0 {
		t.Error("requests")
	}
	isAt(t, u, 0, 113, 0)
	isTick(t, u, 0)
	isAt(t, u, 1, 0, 2)
}

// TestInitial: everything is 0.
func TestInitial(t *testing.T) {
	for _, u := range []*Unit{New(), new(Unit)} {
		hasState(t, u, nil)
		isAt(t, u, 0, 0, 0)
		if u.Frames() != 0 || u.Row(0) != [api.Wide]byte{} {
			t.Errorf("frames %d, row 0 %v", u.Frames(), u.Row(0))
		}
		for addr := range 0x10000 {
			want := byte(0xff)
			switch {
			case addr >= 0x8000 && addr < 0xa000, addr >= 0xfe00 && addr < 0xfea0:
				want = 0
			case addr >= 0xff40 && addr <= 0xff4b && addr != 0xff46:
				want = 0
			}
			if addr == 0xff41 {
				want = 0x80
			}
			isPeek(t, u, uint16(addr), want)
			isRead(t, u, uint16(addr), want)
		}
	}
}

// TestApart: units have nothing in common.
func TestApart(t *testing.T) {
	u, other := New(), New()
	u.Write(0x8000, 1)
	u.Write(0xff42, 1)
	u.Sprite(0, 1)
	u.Write(0xff40, 0x80)
	ticks(u, 200)
	hasState(t, other, nil)
}

// TestTickWhileOff: wherever the unit is, and whatever the signal is.
func TestTickWhileOff(t *testing.T) {
	for _, some := range []set{
		{},
		{controlAtByte: 0x7f, controlAtByte + 1: 0x78},
		{lineAtByte: 20, dotAtByte: 62, ownAtByte: 3, controlAtByte + 6: 0xff},
		{lineAtByte: 143, dotAtByte: 113},
		{lineAtByte: 153, dotAtByte: 113, controlAtByte + 1: 0x48, controlAtByte + 5: 153},
		{lineAtByte: 5, signalAtByte: 1, framesAtByte: 7},
	} {
		u := unitOf(t, some)
		for range 300 {
			isTick(t, u, 0)
		}
		hasState(t, u, some)
		isAt(t, u, int(some[lineAtByte]), int(some[dotAtByte]), 0)
	}
}

// TestPicture: P15.5, and the position in each cycle of three pictures.
func TestPicture(t *testing.T) {
	u := New()
	u.Write(0xff40, 0x80)
	var picture [4]int
	for frame := range 3 {
		for line := range 154 {
			var modes [4]int
			for dot := range 114 {
				modes[u.Mode()]++
				picture[u.Mode()]++
				isAt(t, u, line, dot, wantMode(line, dot))
				var want byte
				if line == 143 && dot == 113 {
					want = Blank
				}
				isTick(t, u, want)
				if got := u.Frames(); got != frame+isAfter(line, dot) {
					t.Errorf("%d frames after line %d, cycle %d of frame %d", got, line, dot, frame)
				}
			}
			want := [4]int{51, 0, 20, 43}
			if line > 143 {
				want = [4]int{0, 114, 0, 0}
			}
			if modes != want {
				t.Errorf("line %d: cycles %v, want %v", line, modes, want)
			}
		}
	}
	if want := [4]int{3 * 144 * 51, 3 * 1140, 3 * 144 * 20, 3 * 144 * 43}; picture != want {
		t.Errorf("three pictures: cycles %v, want %v", picture, want)
	}
	isAt(t, u, 0, 0, 2)
}

// wantMode returns the mode of a unit that is on.
func wantMode(line, dot int) int {
	if line > 143 {
		return 1
	}
	if dot <= 19 {
		return 2
	}
	if dot <= 62 {
		return 3
	}
	return 0
}

// isAfter returns 1 if the picture is completed after a cycle.
func isAfter(line, dot int) int {
	if line > 143 || line == 143 && dot == 113 {
		return 1
	}
	return 0
}

// TestNextLine: the steps from a line to the next one change nothing else.
func TestNextLine(t *testing.T) {
	for _, x := range []struct {
		line, next byte
		own        byte
		frames     int
		want       byte
	}{
		{0, 1, 9, 0x1234, 0}, {17, 18, 9, 0x1234, 0}, {142, 143, 9, 0x1234, 0},
		{143, 144, 9, 0x1235, Blank}, {144, 145, 9, 0x1234, 0}, {152, 153, 9, 0x1234, 0},
		{153, 0, 0, 0x1234, 0},
	} {
		some := set{controlAtByte: 0x80, lineAtByte: x.line, dotAtByte: 113, ownAtByte: 9, framesAtByte: 0x34, framesAtByte + 1: 0x12}
		u := unitOf(t, some)
		isTick(t, u, x.want)
		some[lineAtByte], some[dotAtByte], some[ownAtByte] = x.next, 0, x.own
		some[framesAtByte] = byte(x.frames)
		hasState(t, u, some)
		if u.Frames() != x.frames {
			t.Errorf("line %d: %d frames, want %d", x.line, u.Frames(), x.frames)
		}
	}
}

// TestFramesModulo: 65536 pictures are none.
func TestFramesModulo(t *testing.T) {
	for _, x := range []struct{ before, want int }{{0xff, 0x100}, {0x7fff, 0x8000}, {0xfffe, 0xffff}, {0xffff, 0}} {
		u := unitOf(t, set{
			controlAtByte: 0x80, lineAtByte: 143, dotAtByte: 113,
			framesAtByte: byte(x.before), framesAtByte + 1: byte(x.before >> 8),
		})
		if u.Frames() != x.before {
			t.Errorf("%d frames, want %d", u.Frames(), x.before)
		}
		isTick(t, u, Blank)
		if u.Frames() != x.want {
			t.Errorf("%d frames after %d, want %d", u.Frames(), x.before, x.want)
		}
	}
}

// TestSprite: each byte of the sprite memory in each mode, and those that there
// are not.
func TestSprite(t *testing.T) {
	for _, some := range modes() {
		u := unitOf(t, some)
		want := maps.Clone(some)
		for n := range 160 {
			u.Sprite(n, byte(n+1))
			want[oamAtByte+n] = byte(n + 1)
			isPeek(t, u, 0xfe00+uint16(n), byte(n+1))
		}
		for _, n := range []int{math.MinInt, -1 << 32, -160, -1, 160, 161, 255, 256, 0x2000, 1 << 32, math.MaxInt} {
			u.Sprite(n, 0x77)
		}
		hasState(t, u, want)
	}
}

// modes returns one state for each mode, and one that is off.
func modes() []set {
	return []set{
		{controlAtByte: 0x80, lineAtByte: 3, dotAtByte: 70},
		{controlAtByte: 0x80, lineAtByte: 150, dotAtByte: 5},
		{controlAtByte: 0x80, lineAtByte: 3, dotAtByte: 5},
		{controlAtByte: 0x80, lineAtByte: 3, dotAtByte: 50},
		{controlAtByte: 0x7f, lineAtByte: 3, dotAtByte: 50},
	}
}

// TestMode: the first and last positions of each mode, on and off.
func TestMode(t *testing.T) {
	for _, x := range []struct{ line, dot byte }{
		{0, 0}, {0, 19}, {0, 20}, {0, 62}, {0, 63}, {0, 113},
		{143, 0}, {143, 19}, {143, 20}, {143, 62}, {143, 63}, {143, 113},
		{144, 0}, {144, 19}, {144, 20}, {144, 62}, {144, 63}, {144, 113}, {153, 0}, {153, 113},
	} {
		u := unitOf(t, set{controlAtByte: 0x80, lineAtByte: x.line, dotAtByte: x.dot})
		isAt(t, u, int(x.line), int(x.dot), wantMode(int(x.line), int(x.dot)))
		u = unitOf(t, set{controlAtByte: 0x7f, lineAtByte: x.line, dotAtByte: x.dot})
		isAt(t, u, int(x.line), int(x.dot), 0)
	}
}

// TestRow: rows that there are, and rows that there are not.
func TestRow(t *testing.T) {
	b := state(nil)
	for line := range 144 {
		for x := range 160 {
			b[rowsAtByte+160*line+x] = byte((line + x) % 4)
		}
	}
	u := New()
	if e := u.Decode(b); e != api.OK {
		t.Fatal(e)
	}
	for line := range 144 {
		row := u.Row(line)
		if !bytes.Equal(row[:], b[rowsAtByte+160*line:][:160]) {
			t.Errorf("row %d is %v", line, row)
		}
		row[5] ^= 1
	}
	for _, line := range []int{math.MinInt, -1 << 32, -1, 144, 153, 154, 255, 256, 1 << 32, math.MaxInt} {
		if row := u.Row(line); row != [api.Wide]byte{} {
			t.Errorf("row %d is %v", line, row)
		}
	}
	isSame(t, u, b, "Row")
}

// TestNil: all functions of no unit.
func TestNil(t *testing.T) {
	var u *Unit
	isTick(t, u, 0)
	isAt(t, u, 0, 0, 0)
	for addr := range 0x10000 {
		isPeek(t, u, uint16(addr), 0)
		isRead(t, u, uint16(addr), 0)
		isWrite(t, u, uint16(addr), 0xff, 0)
	}
	for _, n := range []int{-1, 0, 159, 160} {
		u.Sprite(n, 1)
		if u.Row(n) != [api.Wide]byte{} {
			t.Errorf("row %d is %v", n, u.Row(n))
		}
	}
	if b := u.Encode(); len(b) != 0 || u.Frames() != 0 {
		t.Errorf("%d bytes, %d frames", len(b), u.Frames())
	}
	for _, b := range [][]byte{nil, {}, {1}, state(nil), state(set{signalAtByte: 2}), make([]byte, wantedBytes+1)} {
		if e := u.Decode(b); e != api.ErrKind {
			t.Errorf("Decode of %d bytes = %d", len(b), e)
		}
	}
}
