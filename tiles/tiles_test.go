package tiles

import (
	"math"
	"slices"
	"testing"

	"retrograde/api"
)

// memory returns a video memory whose tile 1 has the row of the example as its
// first row, tile 2 colour 1 everywhere, tile 3 colour 2, and tile 4 colour 3.
func memory() []byte {
	vram := make([]byte, 0x2000)
	copy(vram[0x10:], []byte{0x3c, 0x7e})
	for row := range 8 {
		vram[0x20+2*row] = 0xff
		vram[0x31+2*row] = 0xff
		vram[0x40+2*row] = 0xff
		vram[0x41+2*row] = 0xff
	}
	return vram
}

// isDot checks the result of Dot.
func isDot(t *testing.T, vram []byte, tile, x, y int, want byte) {
	t.Helper()
	if got := Dot(vram, tile, x, y); got != want {
		t.Errorf("Dot(%d bytes, %d, %d, %d) = %d, want %d", len(vram), tile, x, y, got, want)
	}
}

// isNumber checks the result of Number.
func isNumber(t *testing.T, v View, b byte, want int) {
	t.Helper()
	if got := v.Number(b); got != want {
		t.Errorf("Number(%02x) of %+v = %d, want %d", b, v, got, want)
	}
}

// isBack checks the result of Back.
func isBack(t *testing.T, v View, vram []byte, x, y int, want byte) {
	t.Helper()
	if got := v.Back(vram, x, y); got != want {
		t.Errorf("Back(%d, %d) of %+v = %d, want %d", x, y, v, got, want)
	}
}

// isWindow checks the result of Window.
func isWindow(t *testing.T, v View, vram []byte, x, y int, want byte) {
	t.Helper()
	if got := v.Window(vram, x, y); got != want {
		t.Errorf("Window(%d, %d) of %+v = %d, want %d", x, y, v, got, want)
	}
}

// isLine checks the results of Line.
func isLine(t *testing.T, v View, vram []byte, line, own int, want [api.Wide]byte, visible bool) {
	t.Helper()
	if got, ok := v.Line(vram, line, own); got != want || ok != visible {
		t.Errorf("Line(%d, %d) of %+v = %v, %t, want %v, %t", line, own, v, got, ok, want, visible)
	}
}

// from returns a line with one colour before a place and another one from
// there on.
func from(place int, before, then byte) [api.Wide]byte {
	var line [api.Wide]byte
	for x := range line {
		if x < place {
			line[x] = before
		} else {
			line[x] = then
		}
	}
	return line
}

// TestExample: the example of the chapter, in each row and in several tiles.
func TestExample(t *testing.T) {
	for _, tile := range []int{0, 1, 127, 128, 255, 256, 383} {
		for y := range 8 {
			vram := make([]byte, 0x2000)
			copy(vram[tile*16+y*2:], []byte{0x3c, 0x7e})
			for x, want := range []byte{0, 2, 3, 3, 3, 3, 2, 0} {
				isDot(t, vram, tile, x, y, want)
				isDot(t, vram, tile, x, y+1, 0)
				isDot(t, vram, tile, x, y-1, 0)
				isDot(t, vram, tile+1, x, y, 0)
				isDot(t, vram, tile-1, x, y, 0)
			}
		}
	}
}

// TestDotOfBothBytes: bit 7 is the leftmost pixel, and the second byte counts
// twice.
func TestDotOfBothBytes(t *testing.T) {
	for x := range 8 {
		bit := byte(0x80) >> x
		for other := range 8 {
			var one, two, three byte
			if other == x {
				one, two, three = 1, 2, 3
			}
			isDot(t, []byte{bit, 0}, 0, other, 0, one)
			isDot(t, []byte{0, bit}, 0, other, 0, two)
			isDot(t, []byte{bit, bit}, 0, other, 0, three)
		}
	}
}

// TestDotModulo: x and y are taken modulo 8, also below 0.
func TestDotModulo(t *testing.T) {
	vram := memory()
	for _, x := range []struct {
		x, y int
		want byte
	}{
		{9, 0, 2}, {10, 8, 3}, {257, 256, 2}, {-7, 0, 2}, {-2, -8, 2}, {-1, 0, 0}, {-3, 0, 3},
		{math.MaxInt, 0, 0}, {math.MaxInt - 1, 0, 2}, {math.MaxInt - 2, 0, 3},
		{math.MinInt, 0, 0}, {math.MinInt + 1, 0, 2}, {math.MinInt + 2, math.MinInt, 3},
		{2, math.MinInt, 3}, {2, math.MaxInt - 7, 3}, {2, math.MaxInt, 0}, {2, -1, 0}, {2, 7, 0},
	} {
		isDot(t, vram, 1, x.x, x.y, x.want)
	}
}

// TestNoTile: there are the tiles 0 to 383 only.
func TestNoTile(t *testing.T) {
	vram := slices.Repeat([]byte{0xff}, 0x2000)
	for _, tile := range []int{0, 1, 255, 256, 382, 383} {
		isDot(t, vram, tile, 0, 0, 3)
		isDot(t, vram, tile, 7, 7, 3)
	}
	for _, tile := range []int{
		-1, -2, -384, 384, 385, 511, 512, 1 << 28, 1 << 32, 1<<60 + 1,
		math.MaxInt, math.MinInt, math.MinInt + 1,
	} {
		isDot(t, vram, tile, 0, 0, 0)
		isDot(t, vram, tile, 7, 7, 0)
		isDot(t, append(vram, vram...), tile, 3, 3, 0)
	}
}

// TestMissingBytes: bytes beyond the slice are 0, whatever the memory there.
func TestMissingBytes(t *testing.T) {
	whole := slices.Repeat([]byte{0xff}, 0x2000)
	for size, want := range map[int]byte{0: 0, 16: 0, 17: 1, 18: 3, 0x2000: 3} {
		isDot(t, whole[:size], 1, 0, 0, want)
		isDot(t, slices.Clone(whole[:size]), 1, 7, 8, want)
	}
	isDot(t, nil, 0, 0, 0, 0)
	isDot(t, whole[:0x17ff], 383, 0, 7, 1)
	isDot(t, whole[:0x1800], 383, 0, 7, 3)

	vram := memory()
	vram[0x1800], vram[0x1c00], vram[0x1bff], vram[0x1fff] = 2, 3, 3, 4
	back, second := View{Control: 0x10}, View{Control: 0x58}
	isBack(t, back, vram[:0x1800], 0, 0, 0)
	isBack(t, back, vram[:0x1801], 0, 0, 1)
	isBack(t, back, vram[:0x1bff], 255, 255, 0)
	isBack(t, back, vram[:0x1c00], 255, 255, 2)
	isBack(t, second, vram[:0x1c00], 0, 0, 0)
	isBack(t, second, vram[:0x1c01], 0, 0, 2)
	isWindow(t, second, vram[:0x1fff], 255, 255, 0)
	isWindow(t, second, vram, 255, 255, 3)
	isBack(t, back, nil, 0, 0, 0)
	isWindow(t, back, nil, 0, 0, 0)
	isLine(t, View{Control: 0xff}, nil, 0, 0, from(0, 0, 0), true)

	// A missing byte of a map is the number 0 of a tile: tile 256, without bit 4.
	isBack(t, back, whole[:0x10], 0, 0, 3)
	isBack(t, View{}, whole[:0x10], 0, 0, 0)
	isBack(t, View{}, whole[:0x1010], 0, 0, 3)
	isWindow(t, View{}, whole[:0x1010], 0, 0, 3)
}

func TestNumber(t *testing.T) {
	for _, x := range []struct {
		b             byte
		plain, signed int
	}{
		{0x00, 0, 256}, {0x01, 1, 257}, {0x7e, 126, 382}, {0x7f, 127, 383},
		{0x80, 128, 128}, {0x81, 129, 129}, {0xfe, 254, 254}, {0xff, 255, 255},
	} {
		for _, control := range []byte{0x10, 0x11, 0x91, 0xff} {
			isNumber(t, View{Control: control}, x.b, x.plain)
		}
		for _, control := range []byte{0x00, 0x01, 0x81, 0xef} {
			isNumber(t, View{Control: control}, x.b, x.signed)
		}
	}
}

// TestMaps: where the tile maps begin, and that the bit of one is not that of
// the other.
func TestMaps(t *testing.T) {
	vram := memory()
	vram[0x1800], vram[0x1c00] = 2, 3
	for _, x := range []struct{ control, back, window byte }{
		{0x10, 1, 1}, {0x18, 2, 1}, {0x50, 1, 2}, {0x58, 2, 2}, {0xb7, 1, 1}, {0xff, 2, 2},
	} {
		isBack(t, View{Control: x.control}, vram, 0, 0, x.back)
		isWindow(t, View{Control: x.control}, vram, 0, 0, x.window)
	}
}

// TestMapPlaces: each byte of a map is that of its row and its column.
func TestMapPlaces(t *testing.T) {
	for place := range 1024 {
		vram := memory()
		vram[0x1800+place], vram[0x1c00+place] = 2, 3
		x, y := place%32*8, place/32*8
		for _, corner := range [][2]int{{0, 0}, {7, 0}, {0, 7}, {7, 7}} {
			px, py := x+corner[0], y+corner[1]
			isBack(t, View{Control: 0x10}, vram, px, py, 1)
			isBack(t, View{Control: 0x18}, vram, px, py, 2)
			isWindow(t, View{Control: 0x10}, vram, px, py, 1)
			isWindow(t, View{Control: 0x50}, vram, px, py, 2)
		}
		for _, beside := range [][2]int{{-1, 0}, {0, -1}, {8, 0}, {0, 8}} {
			px, py := x+beside[0], y+beside[1]
			isBack(t, View{Control: 0x10}, vram, px, py, 0)
			isWindow(t, View{Control: 0x50}, vram, px, py, 0)
		}
	}
}

// TestRowOfTile: Back and Window show the pixels of the tile, not just one.
func TestRowOfTile(t *testing.T) {
	vram := memory()
	copy(vram[0x1a:], []byte{0xf0, 0x01}) // row 5 of tile 1
	vram[0x1800+33] = 1
	v := View{Control: 0x10}
	for x, want := range []byte{0, 2, 3, 3, 3, 3, 2, 0} {
		isBack(t, v, vram, 8+x, 8, want)
		isWindow(t, v, vram, 8+x, 8, want)
		isBack(t, v, vram, 8+x, 9, 0)
	}
	for x, want := range []byte{1, 1, 1, 1, 0, 0, 0, 2} {
		isBack(t, v, vram, 8+x, 13, want)
		isWindow(t, v, vram, 8+x, 13, want)
	}
}

// TestScroll: only Back scrolls, and each direction by its own byte.
func TestScroll(t *testing.T) {
	vram := memory()
	vram[0x1800+33] = 1
	v := View{Control: 0x10, ScrollX: 3, ScrollY: 5, WindowX: 50, WindowY: 60}
	for x, want := range []byte{0, 2, 3, 3, 3, 3, 2, 0} {
		isBack(t, v, vram, 5+x, 3, want)
		isBack(t, v, vram, 5+x, 2, 0)
		isWindow(t, v, vram, 8+x, 8, want)
		isWindow(t, v, vram, 5+x, 3, 0)
	}
	// From the last row and column of the map to the first ones.
	v.ScrollX, v.ScrollY = 0xff, 0xfe
	isBack(t, v, vram, 11, 10, 3)
	isBack(t, v, vram, 10, 10, 2)
	isBack(t, v, vram, 11, 11, 0)
	isBack(t, v, vram, 11, 9, 0)
}

// TestModulo: the places in a map are taken modulo 256, also below 0.
func TestModulo(t *testing.T) {
	vram := memory()
	vram[0x1800], vram[0x1800+1023] = 1, 4
	v := View{Control: 0x10}
	scrolled := View{Control: 0x10, ScrollX: 2, ScrollY: 1}
	for _, x := range []struct {
		x, y int
		want byte
	}{
		{257, 256, 2}, {2, 512, 3}, {-254, -256, 3}, {-1, -1, 3}, {-8, -8, 3}, {-9, -8, 0}, {-8, -9, 0},
		{math.MaxInt, math.MaxInt, 3}, {math.MinInt + 1, math.MinInt, 2}, {math.MinInt, math.MinInt, 0},
		{1 << 32, 1 << 40, 0}, {1<<32 + 1, 1 << 40, 2},
	} {
		isBack(t, v, vram, x.x, x.y, x.want)
		isWindow(t, v, vram, x.x, x.y, x.want)
		isBack(t, scrolled, vram, x.x-2, x.y-1, x.want)
		isWindow(t, scrolled, vram, x.x, x.y, x.want)
	}
	// Sums that are no int.
	isBack(t, scrolled, vram, math.MaxInt, math.MaxInt, 2)
	isBack(t, scrolled, vram, math.MaxInt-2, math.MaxInt-1, 3)
}

// windowMemory returns a video memory in which the background has colour 1, and
// the window colour 2, with the map of the window at 1c00.
func windowMemory() []byte {
	vram := memory()
	for place := range 1024 {
		vram[0x1800+place], vram[0x1c00+place] = 2, 3
	}
	return vram
}

// TestLine: where the window begins in a line.
func TestLine(t *testing.T) {
	vram := windowMemory()
	for _, x := range []struct {
		windowX byte
		start   int
	}{
		{0, 0}, {1, 0}, {6, 0}, {7, 0}, {8, 1}, {17, 10}, {87, 80}, {165, 158}, {166, 159},
	} {
		isLine(t, View{Control: 0x71, WindowX: x.windowX}, vram, 0, 0, from(x.start, 1, 2), true)
	}
	for _, windowX := range []byte{167, 168, 200, 254, 255} {
		isLine(t, View{Control: 0x71, WindowX: windowX}, vram, 0, 0, from(0, 1, 1), false)
	}
}

// TestLineBits: the bits of Control without which nothing, or no window, is
// shown.
func TestLineBits(t *testing.T) {
	vram := windowMemory()
	for _, x := range []struct {
		control byte
		want    [api.Wide]byte
		visible bool
	}{
		{0x71, from(80, 1, 2), true},
		{0xf7, from(80, 1, 2), true},
		{0x79, from(80, 2, 2), true},
		{0x31, from(80, 1, 1), true},
		{0x39, from(80, 2, 1), true},
		{0x51, from(80, 1, 1), false},
		{0x59, from(80, 2, 2), false},
		{0x11, from(80, 1, 1), false},
		{0x70, from(0, 0, 0), false},
		{0xfe, from(0, 0, 0), false},
		{0x20, from(0, 0, 0), false},
		{0x50, from(0, 0, 0), false},
		{0x00, from(0, 0, 0), false},
	} {
		isLine(t, View{Control: x.control, WindowX: 87}, vram, 3, 2, x.want, x.visible)
	}
}

// TestWindowLines: in which lines the window is visible.
func TestWindowLines(t *testing.T) {
	vram := windowMemory()
	for _, x := range []struct {
		windowY byte
		line    int
		visible bool
	}{
		{0, 0, true}, {0, 143, true}, {4, 3, false}, {4, 4, true}, {4, 5, true}, {143, 142, false}, {143, 143, true},
		{144, 143, false}, {255, 143, false}, {255, 254, false}, {255, 255, true},
		// Lines that the screen does not have.
		{0, -1, false}, {0, math.MinInt, false}, {255, -1, false}, {255, 256, true}, {4, 256, true}, {4, 259, true},
		{255, math.MaxInt, true}, {255, 1 << 32, true}, {4, -252, false},
	} {
		v := View{Control: 0x71, WindowX: 87, WindowY: x.windowY}
		want := from(80, 1, 1)
		if x.visible {
			want = from(80, 1, 2)
		}
		isLine(t, v, vram, x.line, 0, want, x.visible)
	}
}

// TestLineOfPlaces: a line of the background is that of the line, and a line of
// the window is its own one, from the window's left edge on.
func TestLineOfPlaces(t *testing.T) {
	vram := memory()
	vram[0x1800+32*2+1] = 1 // 8 to 15, in line 16
	vram[0x1c00+32*3+1] = 1 // 8 to 15, in line 24 of the window
	row := []byte{0, 2, 3, 3, 3, 3, 2, 0}
	v := View{Control: 0x71, WindowX: 57, WindowY: 10}
	var both, back, window, scrolled [api.Wide]byte
	copy(both[8:], row)
	copy(both[58:], row)
	copy(back[8:], row)
	copy(window[58:], row)
	copy(scrolled[5:], row)
	isLine(t, v, vram, 16, 24, both, true)
	isLine(t, v, vram, 16, 25, back, true)
	isLine(t, v, vram, 17, 24, window, true)
	isLine(t, v, vram, 16+256, 24-256, both, true)
	isLine(t, v, vram, 24, 16, from(0, 0, 0), true)
	// The window does not scroll, nor does it begin with the line.
	v.ScrollX, v.ScrollY = 3, 2
	copy(scrolled[58:], row)
	isLine(t, v, vram, 14, 24, scrolled, true)
	// The left edge of the window is cut off.
	cut := View{Control: 0x71, WindowX: 0}
	isLine(t, cut, vram, 0, 24, [api.Wide]byte{1: 0, 2: 2, 3: 3, 4: 3, 5: 3, 6: 3, 7: 2}, true)
}

// TestLineOfBack: without a window, Line is what Back returns, over the whole
// width.
func TestLineOfBack(t *testing.T) {
	vram := memory()
	for place := range 1024 {
		vram[0x1800+place] = byte(place*7%5 + place/32)
	}
	for line := range 300 {
		v := View{Control: 0x11, ScrollX: byte(line * 5), ScrollY: byte(line * 3)}
		var want [api.Wide]byte
		for x := range want {
			want[x] = v.Back(vram, x, line)
		}
		isLine(t, v, vram, line, 0, want, false)
	}
}

func TestShade(t *testing.T) {
	for _, x := range []struct{ palette, colour, want byte }{
		{0x1b, 0, 3}, {0x1b, 1, 2}, {0x1b, 2, 1}, {0x1b, 3, 0},
		{0xe4, 0, 0}, {0xe4, 1, 1}, {0xe4, 2, 2}, {0xe4, 3, 3},
		{0x00, 2, 0}, {0xff, 2, 3}, {0x30, 2, 3}, {0x30, 1, 0}, {0x30, 3, 0}, {0x80, 3, 2}, {0x40, 3, 1},
		// Colours are taken modulo 4.
		{0x1b, 4, 3}, {0x1b, 5, 2}, {0x1b, 6, 1}, {0x1b, 7, 0}, {0x1b, 0xfc, 3}, {0x1b, 0xff, 0}, {0xe4, 0x82, 2},
	} {
		if got := Shade(x.palette, x.colour); got != x.want {
			t.Errorf("Shade(%02x, %d) = %d, want %d", x.palette, x.colour, got, x.want)
		}
	}
}

// TestScrollByTile: P13.4. Scrolling by 8 pixels shows the same tiles, moved by
// one, and scrolling by 256 changes nothing.
func TestScrollByTile(t *testing.T) {
	vram := memory()
	for place := range 1024 {
		vram[0x1800+place] = byte(place * place % 5)
	}
	v := View{Control: 0x11, ScrollX: 250, ScrollY: 3}
	right, down := v, v
	right.ScrollX += 8
	down.ScrollY += 8
	for y := range 256 {
		for x := range 256 {
			want := v.Back(vram, x, y)
			isBack(t, right, vram, x-8, y, want)
			isBack(t, down, vram, x, y-8, want)
			isBack(t, v, vram, x+256, y, want)
			isBack(t, v, vram, x, y-256, want)
		}
	}
	// ScrollX that becomes as large as 256 is as it was.
	for range 32 {
		right.ScrollX += 8
		down.ScrollY += 8
	}
	for y := range 144 {
		line, _ := v.Line(vram, y, 0)
		moved, _ := right.Line(vram, y, 0)
		lower, _ := down.Line(vram, y, 0)
		next, _ := v.Line(vram, y+8, 0)
		if !slices.Equal(line[8:], moved[:api.Wide-8]) || next != lower {
			t.Errorf("line %d, scrolled by 8, differs", y)
		}
	}
}

// TestUnchanged: neither a view nor a memory is changed, and a line is new in
// each call.
func TestUnchanged(t *testing.T) {
	vram := windowMemory()
	before := slices.Clone(vram)
	v := View{Control: 0x71, ScrollX: 1, ScrollY: 2, WindowX: 87, WindowY: 4}
	asked := v
	first, _ := asked.Line(vram, 4, 0)
	asked.Back(vram, 3, 3)
	asked.Window(vram, 3, 3)
	asked.Number(3)
	if asked != v || !slices.Equal(vram, before) {
		t.Error("an argument has changed")
	}
	first[0] = 9
	isLine(t, v, vram, 4, 0, from(80, 1, 2), true)
}
