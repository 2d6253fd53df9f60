package ppu

import (
	"bytes"
	"testing"

	"retrograde/api"
)

// The palette plain leaves colours as they are.
const plain = 0xe4

// filled returns a row with one shade.
func filled(shade byte) [api.Wide]byte { return from(0, 0, shade) }

// from returns a row with one shade before a place and another one from there
// on.
func from(place int, before, then byte) [api.Wide]byte {
	var row [api.Wide]byte
	for x := range row {
		row[x] = before
		if x >= place {
			row[x] = then
		}
	}
	return row
}

// drawing returns a unit that is off, with plain palettes and tiles of one
// colour each: tile 1 has colour 1 everywhere, tile 2 colour 2, tile 3 colour 3.
// The first map has tile 1 everywhere, the second one tile 2.
func drawing() *Unit {
	u := New()
	for row := range uint16(8) {
		u.Write(0x8010+2*row, 0xff)
		u.Write(0x8021+2*row, 0xff)
		u.Write(0x8030+2*row, 0xff)
		u.Write(0x8031+2*row, 0xff)
	}
	for n := range uint16(0x400) {
		u.Write(0x9800+n, 1)
		u.Write(0x9c00+n, 2)
	}
	for _, addr := range []uint16{0xff47, 0xff48, 0xff49} {
		u.Write(addr, plain)
	}
	return u
}

// isRow checks a row of the picture.
func isRow(t *testing.T, u *Unit, line int, want [api.Wide]byte) {
	t.Helper()
	if got := u.Row(line); got != want {
		t.Errorf("row %d is %v, want %v", line, got, want)
	}
}

// own returns the number of lines that the window has shown.
func own(u *Unit) int { return int(u.Encode()[ownAtByte]) }

// TestRenderCycle: a line is rendered when its cycle becomes 63, in no other
// cycle and in no other line.
func TestRenderCycle(t *testing.T) {
	u := drawing()
	u.Write(0xff40, 0x91)
	for line := range 144 {
		for dot := 1; dot <= 114; dot++ {
			u.Tick()
			want := filled(0)
			if dot >= 63 {
				want = filled(1)
			}
			isRow(t, u, line, want)
		}
		if line < 143 {
			isRow(t, u, line+1, filled(0))
		}
	}
	before := u.Encode()[rowsAtByte:]
	u.Write(0xff47, 0x1b)
	ticks(u, 10*114+62)
	isAt(t, u, 0, 62, 3)
	if !bytes.Equal(u.Encode()[rowsAtByte:], before) {
		t.Error("the picture changed below it")
	}
	u.Tick()
	isRow(t, u, 0, filled(2))
	isRow(t, u, 1, filled(1))
	isRow(t, u, 143, filled(1))
}

// TestRenderedFromThere: a unit that begins behind cycle 62 does not render the
// line.
func TestRenderedFromThere(t *testing.T) {
	for _, x := range []struct {
		line, dot byte
		want      byte
	}{{7, 0, 3}, {7, 61, 3}, {7, 62, 3}, {7, 63, 0}, {7, 100, 0}, {144, 62, 0}, {153, 62, 0}, {143, 62, 3}} {
		u := unitOf(t, set{controlAtByte: 0x80, controlAtByte + 6: 0xff, lineAtByte: x.line, dotAtByte: x.dot})
		ticks(u, 113-int(x.dot))
		for line := range 144 {
			want := filled(0)
			if line == int(x.line) {
				want = filled(x.want)
			}
			isRow(t, u, line, want)
		}
	}
}

// TestLatestRegisters: what counts is what the registers and memories are in the
// cycle in which the line is rendered.
func TestLatestRegisters(t *testing.T) {
	u := drawing()
	u.Write(0xff40, 0x91)
	ticks(u, 62)
	u.Write(0xff47, 0x1b)
	u.Tick()
	u.Write(0xff47, plain)
	isRow(t, u, 0, filled(2))
	ticks(u, 113)
	u.Write(0xff40, 0x99)
	u.Tick()
	u.Write(0xff40, 0x91)
	isRow(t, u, 1, filled(2))
	ticks(u, 113)
	u.Sprite(0, 16)
	u.Sprite(1, 88)
	u.Sprite(2, 3)
	u.Write(0xff40, 0x93)
	u.Tick()
	want := filled(1)
	copy(want[80:88], []byte{3, 3, 3, 3, 3, 3, 3, 3})
	isRow(t, u, 2, want)
	isRow(t, u, 0, filled(2))
	isRow(t, u, 1, filled(2))
}

// rendered returns a row of the picture, for a unit that is off, with that
// Control.
func rendered(u *Unit, control byte, line int) [api.Wide]byte {
	u.Write(0xff40, control)
	ticks(u, 114*line+63)
	return u.Row(line)
}

// TestEachRegister: each register has its part in what is rendered.
func TestEachRegister(t *testing.T) {
	for _, x := range []struct {
		addr    uint16
		value   byte
		control byte
		line    int
		want    [api.Wide]byte
	}{
		{0xff47, plain, 0x93, 5, from(8, 2, 1)},
		{0xff47, 0x1b, 0x93, 5, from(8, 2, 2)},
		{0xff48, 0x1b, 0x93, 5, from(8, 1, 1)},
		{0xff49, 0x1b, 0x93, 5, from(8, 2, 1)},
		{0xff49, 0x1b, 0x93, 37, from(8, 1, 1)},
		{0xff48, 0x1b, 0x93, 37, from(8, 2, 1)},
		{0xff42, 8, 0x91, 79, filled(3)},
		{0xff42, 8, 0x91, 80, filled(1)},
		{0xff42, 8, 0x91, 72, filled(3)},
		{0xff42, 8, 0x91, 71, filled(1)},
		{0xff43, 8, 0x91, 5, from(152, 1, 3)},
		{0xff43, 7, 0x91, 5, from(153, 1, 3)},
		{0xff4a, 5, 0xf1, 4, filled(1)},
		{0xff4a, 5, 0xf1, 5, from(30, 1, 2)},
		{0xff4b, 0x12, 0xf1, 100, from(11, 1, 2)},
		{0xff4b, 166, 0xf1, 100, from(159, 1, 2)},
		{0xff4b, 167, 0xf1, 100, filled(1)},
		{0xff40, 0, 0x92, 20, filled(0)},
	} {
		u := drawing()
		for n := range uint16(32) {
			u.Write(0x9800+10*32+n, 3)
			u.Write(0x9800+32*n+20, 3)
		}
		u.Write(0x9800+10*32+20, 3)
		// Sprites in the lines 0 to 7 and 32 to 39, the latter with the second
		// palette.
		for n, b := range []byte{16, 8, 2, 0, 48, 8, 2, 0x10} {
			u.Sprite(n, b)
		}
		u.Write(0xff4a, 50)
		u.Write(0xff4b, 37)
		u.Write(x.addr, x.value)
		if got := rendered(u, x.control, x.line); got != x.want {
			t.Errorf("%04x %02x, Control %02x: line %d is %v, want %v", x.addr, x.value, x.control, x.line, got, x.want)
		}
	}
}

// TestOwn: Own is incremented in the lines in which the window is visible.
func TestOwn(t *testing.T) {
	u := drawing()
	u.Write(0xff4a, 3)
	u.Write(0xff4b, 7)
	u.Write(0xff40, 0xb1)
	for line := range 154 {
		before := min(max(line-3, 0), 141)
		for dot := range 114 {
			want := before
			if dot >= 63 && line >= 3 && line < 144 {
				want++
			}
			if own(u) != want {
				t.Errorf("line %d, cycle %d: Own %d, want %d", line, dot, own(u), want)
			}
			u.Tick()
		}
	}
	isAt(t, u, 0, 0, 2)
	if own(u) != 0 {
		t.Errorf("Own %d in the next picture", own(u))
	}
}

// TestOwnCounts: the window shows its lines one after the other, whether lines
// without it are between them.
func TestOwnCounts(t *testing.T) {
	u := drawing()
	// Line n of the window has tile n / 8 + 1 in the second map.
	for n := range uint16(32 * 3) {
		u.Write(0x9c00+n, byte(n/32+1))
	}
	u.Write(0xff4b, 7)
	shown := 0
	u.Write(0xff40, 0xf1)
	for line := range 48 {
		ticks(u, 10)
		want := filled(1)
		if line%2 == 0 {
			u.Write(0xff40, 0xf1)
			want = filled(byte(shown/8 + 1))
			shown++
		} else {
			u.Write(0xff40, 0xd1)
		}
		ticks(u, 104)
		isRow(t, u, line, want)
		if own(u) != shown {
			t.Errorf("line %d: Own %d, want %d", line, own(u), shown)
		}
	}
}

// TestOwnStays: the window is not visible.
func TestOwnStays(t *testing.T) {
	for _, x := range []struct{ control, windowY, windowX, want byte }{
		{0xa1, 20, 7, 6}, {0xa1, 21, 7, 5}, {0xa1, 19, 7, 6}, {0xa0, 20, 7, 5}, {0x81, 20, 7, 5}, {0xa1, 0, 166, 6}, {0xa1, 0, 167, 5}, {0xa1, 0, 0, 6},
	} {
		u := unitOf(t, set{
			controlAtByte: x.control, controlAtByte + 9: x.windowY, controlAtByte + 10: x.windowX,
			lineAtByte: 20, dotAtByte: 62, ownAtByte: 5,
		})
		u.Tick()
		if own(u) != int(x.want) {
			t.Errorf("%+v: Own %d", x, own(u))
		}
	}
}

// TestOwnIsAByte: Own has one byte, so 0 follows 255.
func TestOwnIsAByte(t *testing.T) {
	u := unitOf(t, set{controlAtByte: 0xa1, controlAtByte + 10: 7, lineAtByte: 20, dotAtByte: 62, ownAtByte: 255})
	u.Tick()
	if own(u) != 0 {
		t.Errorf("Own %d after 255", own(u))
	}
	ticks(u, 114)
	if own(u) != 1 {
		t.Errorf("Own %d after 0", own(u))
	}
}
