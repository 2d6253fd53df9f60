package sprites

import (
	"math"
	"slices"
	"testing"

	"retrograde/api"
)

// The palette plain leaves colours as they are, and swapped turns them round.
const (
	plain   = 0xe4
	swapped = 0x1b
)

// memory returns a video memory whose tile 1 has one pixel of colour 1 in its
// upper left corner and one of colour 2 in its lower right corner, tile 2 colour
// 1 everywhere, tile 3 colour 2, tile 4 colour 3, and tile 5 the row
// 0 2 3 3 3 3 2 0 as its row 2.
func memory() []byte {
	vram := make([]byte, 0x2000)
	vram[0x10] = 0x80
	vram[0x1f] = 0x01
	for row := range 8 {
		vram[0x20+2*row] = 0xff
		vram[0x31+2*row] = 0xff
		vram[0x40+2*row] = 0xff
		vram[0x41+2*row] = 0xff
	}
	copy(vram[0x54:], []byte{0x3c, 0x7e})
	return vram
}

// look returns a look with sprites shown, and palettes that leave all colours as
// they are.
func look() Look {
	return Look{Control: 0x02, Back: plain, First: plain, Second: plain}
}

// isScan checks the result of Scan.
func isScan(t *testing.T, l Look, oam []byte, line int, want ...int) {
	t.Helper()
	if got := l.Scan(oam, line); !slices.Equal(got, want) {
		t.Errorf("Scan(%v, %d) of %+v = %v, want %v", oam, line, l, got, want)
	}
}

// isDot checks the results of Dot; with colour 0, there is to be none.
func isDot(t *testing.T, l Look, vram, oam []byte, n, x, line int, want byte) {
	t.Helper()
	if got, ok := l.Dot(vram, oam, n, x, line); got != want || ok != (want != 0) {
		t.Errorf("Dot(%v, %d, %d, %d) of %+v = %d, %t, want %d", oam, n, x, line, l, got, ok, want)
	}
}

// isLine checks the result of Line.
func isLine(t *testing.T, l Look, vram, oam []byte, line int, below, want [api.Wide]byte) {
	t.Helper()
	if got := l.Line(vram, oam, line, below); got != want {
		t.Errorf("Line(%v, %d) of %+v above %v = %v, want %v", oam, line, l, below, got, want)
	}
}

// only returns a line with some colours from a place on, and 0 elsewhere.
func only(place int, colours ...byte) [api.Wide]byte {
	var line [api.Wide]byte
	copy(line[place:], colours)
	return line
}

// filled returns a line with one colour.
func filled(colour byte) [api.Wide]byte {
	var line [api.Wide]byte
	for x := range line {
		line[x] = colour
	}
	return line
}

// TestExample: the example of the chapter.
func TestExample(t *testing.T) {
	oam := []byte{16, 8, 1, 0}
	isDot(t, look(), memory(), oam, 0, 0, 0, 1)
	isDot(t, look(), memory(), oam, 0, 7, 7, 2)
	isLine(t, look(), memory(), oam, 0, filled(0), only(0, 1))
	isLine(t, look(), memory(), oam, 7, filled(0), only(7, 2))
}

// TestScanEdges: the first and the last line that a sprite occupies.
func TestScanEdges(t *testing.T) {
	for _, x := range []struct {
		control, y byte
		first      int
		last       int
	}{
		{0, 16, 0, 7}, {4, 16, 0, 15}, {2, 16, 0, 7}, {0xfb, 16, 0, 7}, {0xff, 16, 0, 15},
		{0, 159, 143, 150}, {4, 159, 143, 158}, {0, 255, 239, 246}, {4, 255, 239, 254},
		{0, 1, -15, -8}, {4, 1, -15, 0}, {0, 9, -7, 0}, {0, 0, -16, -9}, {4, 0, -16, -1},
	} {
		// Each one but sprite 1 is elsewhere.
		oam := slices.Repeat([]byte{x.y + 128, 8, 0, 0}, 40)
		oam[4] = x.y
		l := Look{Control: x.control}
		isScan(t, l, oam, x.first-1)
		isScan(t, l, oam, x.first, 1)
		isScan(t, l, oam, x.last, 1)
		isScan(t, l, oam, x.last+1)
		isScan(t, l, oam, x.first-256)
		isScan(t, l, oam, x.first+256)
	}
}

// TestScanWhateverElse: only Y determines whether a sprite is scanned: not
// whether anything of it is seen, nor whether sprites are shown.
func TestScanWhateverElse(t *testing.T) {
	oam := []byte{20, 0, 0, 0, 20, 255, 9, 0xff, 20, 168, 0, 0x80, 30, 30, 0, 0, 20, 80, 3, 0x40}
	isScan(t, Look{}, oam, 5, 0, 1, 2, 4)
	isScan(t, look(), oam, 5, 0, 1, 2, 4)
	isScan(t, look(), oam, 14, 3)
}

// TestScanTen: the first ten, in ascending order, whatever their X.
func TestScanTen(t *testing.T) {
	var oam []byte
	for n := range 40 {
		y := byte(16)
		if n%3 == 0 {
			y = 64
		}
		oam = append(oam, y, byte(200-5*n), 0, 0)
	}
	isScan(t, look(), oam, 0, 1, 2, 4, 5, 7, 8, 10, 11, 13, 14)
	isScan(t, look(), oam, 48, 0, 3, 6, 9, 12, 15, 18, 21, 24, 27)
	for n := range 24 {
		oam[4*n] = 100
	}
	isScan(t, look(), oam, 0, 25, 26, 28, 29, 31, 32, 34, 35, 37, 38)
	isScan(t, look(), oam, 48, 24, 27, 30, 33, 36, 39)
	isScan(t, look(), oam, 84, 0, 1, 2, 3, 4, 5, 6, 7, 8, 9)
}

// TestScanMissing: bytes beyond the slice are 0, whatever the memory there, and
// bytes from 160 on are no sprites.
func TestScanMissing(t *testing.T) {
	isScan(t, look(), nil, 0)
	isScan(t, look(), []byte{}, -9, 0, 1, 2, 3, 4, 5, 6, 7, 8, 9)
	isScan(t, look(), nil, -16, 0, 1, 2, 3, 4, 5, 6, 7, 8, 9)
	isScan(t, look(), nil, -8)
	isScan(t, look(), nil, -17)
	isScan(t, look(), []byte{16}, 0, 0)
	isScan(t, look(), []byte{0, 0, 0, 0, 16}, 0, 1)
	whole := slices.Repeat([]byte{16, 8, 2, 0}, 60)
	isScan(t, look(), whole[:8], 3, 0, 1)
	isScan(t, look(), whole[:9], 3, 0, 1, 2)
	isScan(t, look(), whole[:8], -10, 2, 3, 4, 5, 6, 7, 8, 9, 10, 11)
	for n := range 37 {
		whole[4*n] = 200
	}
	isScan(t, look(), whole, 3, 37, 38, 39)
	isScan(t, look(), whole[:38*4], 3, 37)
	isScan(t, look(), whole[:38*4], -16, 38, 39)
}

// TestScanFarLines: there are no sprites far above or below the screen.
func TestScanFarLines(t *testing.T) {
	for _, y := range []byte{0, 1, 16, 100, 255} {
		oam := slices.Repeat([]byte{y, 8, 0, 0}, 40)
		for _, line := range []int{
			math.MinInt, math.MinInt + 1, math.MinInt + 16, math.MinInt + 255, -1 << 32, -256, -17,
			255, 256, 1 << 32, math.MaxInt - 255, math.MaxInt - 15, math.MaxInt - 1, math.MaxInt,
		} {
			isScan(t, look(), oam, line)
			isScan(t, Look{Control: 6}, oam, line)
		}
	}
}

// TestDotFlipped: a sprite's colours, with each kind of flipping.
func TestDotFlipped(t *testing.T) {
	vram := memory()
	for _, x := range []struct {
		attributes byte
		x1, y1     int
		x2, y2     int
	}{
		{0x00, 0, 0, 7, 7}, {0x20, 7, 0, 0, 7}, {0x40, 0, 7, 7, 0}, {0x60, 7, 7, 0, 0},
		{0x9f, 0, 0, 7, 7}, {0xbf, 7, 0, 0, 7}, {0xdf, 0, 7, 7, 0}, {0xff, 7, 7, 0, 0},
	} {
		oam := []byte{0, 0, 0, 0, 30, 40, 1, x.attributes}
		for line := 10; line < 26; line++ {
			for column := 28; column < 44; column++ {
				want := byte(0)
				switch {
				case column == 32+x.x1 && line == 14+x.y1:
					want = 1
				case column == 32+x.x2 && line == 14+x.y2:
					want = 2
				}
				isDot(t, look(), vram, oam, 1, column, line, want)
				isDot(t, look(), vram, oam, 0, column, line, 0)
				isDot(t, look(), vram, oam, 2, column, line, 0)
			}
		}
	}
}

// TestDotRow: the colours of a row, flipped and not.
func TestDotRow(t *testing.T) {
	vram := memory()
	vram[0x54], vram[0x55] = 0x5c, 0x73
	for x, want := range []byte{0, 3, 2, 3, 1, 1, 2, 2} {
		isDot(t, look(), vram, []byte{16, 8, 5, 0}, 0, x, 2, want)
		isDot(t, look(), vram, []byte{16, 8, 5, 0x40}, 0, x, 5, want)
		isDot(t, look(), vram, []byte{16, 8, 5, 0x20}, 0, 7-x, 2, want)
		isDot(t, look(), vram, []byte{16, 8, 5, 0x60}, 0, 7-x, 5, want)
		isDot(t, look(), vram, []byte{16, 8, 5, 0}, 0, x, 5, 0)
	}
}

// TestDotTall: with height 16, the lowest bit of the tile number is ignored, and
// the lower half is that of the next tile; flipped vertically, they change
// places.
func TestDotTall(t *testing.T) {
	vram := memory()
	tall := look()
	tall.Control |= 4
	for line := range 20 {
		upper, lower := byte(0), byte(0)
		if line < 8 {
			upper = 1
		} else if line < 16 {
			lower = 2
		}
		for _, tile := range []byte{2, 3} {
			isDot(t, tall, vram, []byte{16, 8, tile, 0}, 0, 3, line, upper+lower)
			isDot(t, tall, vram, []byte{16, 8, tile, 0x40}, 0, 3, line, 2*upper+lower/2)
		}
	}
	// Tile 0 and tile 1; the pixels of tile 1 are in rows 8 and 15.
	for _, x := range []struct {
		attributes byte
		x1, y1     int
		x2, y2     int
	}{{0, 0, 8, 7, 15}, {0x20, 7, 8, 0, 15}, {0x40, 0, 7, 7, 0}, {0x60, 7, 7, 0, 0}} {
		for _, tile := range []byte{0, 1} {
			oam := []byte{16, 8, tile, x.attributes}
			isDot(t, tall, vram, oam, 0, x.x1, x.y1, 1)
			isDot(t, tall, vram, oam, 0, x.x2, x.y2, 2)
			isDot(t, tall, vram, oam, 0, x.x1, 15-x.y1, 0)
			isDot(t, tall, vram, oam, 0, 7-x.x1, x.y1, 0)
		}
	}
	// The last tile of all is 255; with height 8, its number is taken as it is.
	for row := range 8 {
		vram[0xff0+2*row], vram[0x1000+2*row] = 0xff, 0xff
	}
	isDot(t, tall, vram, []byte{16, 8, 0xff, 0}, 0, 0, 7, 0)
	isDot(t, tall, vram, []byte{16, 8, 0xff, 0}, 0, 0, 8, 1)
	isDot(t, tall, vram, []byte{16, 8, 0xfe, 0}, 0, 0, 15, 1)
	isDot(t, look(), vram, []byte{16, 8, 0xff, 0}, 0, 0, 7, 1)
	isDot(t, look(), vram, []byte{16, 8, 0xff, 0}, 0, 0, 8, 0)
	isDot(t, look(), vram, []byte{16, 8, 0xfe, 0}, 0, 0, 7, 0)
}

// TestDotTileNumbers: bit 4 of Control, by which the background counts its
// tiles, means nothing to sprites.
func TestDotTileNumbers(t *testing.T) {
	for _, control := range []byte{0, 0x10, 0x12, 0xfb, 0xeb} {
		l := Look{Control: control}
		isDot(t, l, memory(), []byte{16, 8, 2, 0}, 0, 4, 4, 1)
		isDot(t, l, memory(), []byte{16, 8, 4, 0}, 0, 4, 4, 3)
	}
}

// TestDotEdges: the columns that a sprite occupies, also beyond the screen.
func TestDotEdges(t *testing.T) {
	for _, x := range []byte{0, 1, 7, 8, 9, 100, 160, 161, 167, 168, 255} {
		oam := []byte{16, x, 4, 0}
		left := int(x) - 8
		for column := left - 10; column < left+18; column++ {
			want := byte(0)
			if column >= left && column < left+8 {
				want = 3
			}
			isDot(t, look(), memory(), oam, 0, column, 0, want)
		}
		isDot(t, look(), memory(), oam, 0, left+256, 0, 0)
		isDot(t, look(), memory(), oam, 0, left-256, 0, 0)
	}
	isDot(t, look(), memory(), []byte{0, 8, 4, 0}, 0, 0, -9, 3)
	isDot(t, look(), memory(), []byte{255, 8, 4, 0}, 0, 0, 246, 3)
}

// TestDotOfAnySprite: Dot is about each sprite, also one that Scan leaves out.
func TestDotOfAnySprite(t *testing.T) {
	oam := slices.Repeat([]byte{16, 8, 2, 0}, 39)
	oam = append(oam, 16, 80, 4, 0)
	isDot(t, look(), memory(), oam, 38, 0, 0, 1)
	isDot(t, look(), memory(), oam, 39, 72, 0, 3)
	isDot(t, Look{}, memory(), oam, 39, 79, 7, 3)
	isDot(t, look(), memory(), oam, 39, 0, 0, 0)
}

// TestDotInvalid: there are the sprites 0 to 39 only, and there is nothing at
// places that no sprite occupies.
func TestDotInvalid(t *testing.T) {
	oam := slices.Repeat([]byte{16, 8, 4, 0}, 80)
	for _, n := range []int{
		-1, -2, -40, 40, 41, 79, 80, 1 << 32, 1 << 62, math.MaxInt, math.MinInt, math.MinInt + 1, -1 << 62,
	} {
		isDot(t, look(), memory(), oam, n, 0, 0, 0)
		isDot(t, look(), memory(), nil, n, -1, -10, 0)
	}
	for _, far := range []int{
		math.MinInt, math.MinInt + 7, math.MinInt + 8, math.MinInt + 15, math.MinInt + 250, -1 << 32,
		1 << 32, math.MaxInt - 250, math.MaxInt - 16, math.MaxInt - 8, math.MaxInt,
	} {
		for _, place := range []byte{0, 8, 16, 255} {
			oam := []byte{place, place, 4, 0}
			isDot(t, look(), memory(), oam, 0, far, int(place)-16, 0)
			isDot(t, look(), memory(), oam, 0, int(place)-8, far, 0)
			isDot(t, look(), memory(), oam, 0, far, far, 0)
		}
	}
}

// TestDotMissing: bytes beyond the slices are 0, whatever the memory there.
func TestDotMissing(t *testing.T) {
	whole := slices.Repeat([]byte{16, 8, 4, 0xff}, 50)
	vram := memory()
	vram[0] = 0x80 // the upper left corner of tile 0
	isDot(t, look(), vram, whole[:3], 0, 0, 0, 3)
	isDot(t, look(), vram, whole[:2], 0, 0, 0, 1)
	isDot(t, look(), vram, whole[:2], 0, 1, 0, 0)
	isDot(t, look(), vram, whole[:1], 0, 0, 0, 0)
	isDot(t, look(), vram, whole[:1], 0, -8, 0, 1)
	isDot(t, look(), vram, whole[:0], 0, -8, -16, 1)
	isDot(t, look(), vram, nil, 39, -8, -16, 1)
	isDot(t, look(), vram, whole[:4], 1, -8, -16, 1)
	isDot(t, look(), vram, whole[:4], 1, 0, 0, 0)
	isDot(t, look(), vram, whole[:160], 39, 0, 0, 3)
	isDot(t, look(), vram, whole[:159], 39, 7, 7, 3)
	isDot(t, look(), nil, whole, 0, 0, 0, 0)
	isDot(t, look(), memory()[:0x40], whole, 0, 0, 7, 0)
	isDot(t, look(), memory()[:0x41], whole, 0, 0, 7, 1)
	isDot(t, look(), memory()[:0x42], whole, 0, 0, 7, 3)
	// The attributes that are missing flip nothing.
	corner := []byte{16, 8, 1, 0x60}
	isDot(t, look(), vram, corner, 0, 7, 7, 1)
	isDot(t, look(), vram, corner[:3], 0, 0, 0, 1)
}

// TestLineOfPlaces: sprites are where they are, also those that are partly
// beyond the screen, and those that are not on it at all change nothing.
func TestLineOfPlaces(t *testing.T) {
	vram := memory()
	below := filled(1)
	below[50] = 2
	want := below
	copy(want[20:], []byte{1, 2, 3, 3, 3, 3, 2, 1})
	copy(want[:], []byte{3, 2, 1})
	copy(want[155:], []byte{1, 2, 3, 3, 3})
	oam := []byte{
		30, 28, 5, 0,
		30, 3, 5, 0,
		30, 163, 5, 0,
		30, 0, 4, 0,
		30, 168, 4, 0,
		30, 255, 4, 0,
		22, 60, 4, 0,
		38, 60, 4, 0,
	}
	isLine(t, look(), vram, oam, 16, below, want)
	isLine(t, look(), vram, oam, 15, below, below)
	isLine(t, look(), vram, oam, 17, below, below)
	isLine(t, look(), vram, oam, 14-256, below, below)
}

// TestLineNotShown: without bit 1 of Control, there are no sprites.
func TestLineNotShown(t *testing.T) {
	oam := []byte{16, 8, 4, 0}
	for control := range 256 {
		l := look()
		l.Control = byte(control)
		want := filled(0)
		if control&2 != 0 {
			want = only(0, 3, 3, 3, 3, 3, 3, 3, 3)
		}
		if control&4 != 0 && control&2 != 0 {
			isLine(t, l, memory(), oam, 8, filled(0), filled(0))
		}
		isLine(t, l, memory(), oam, 1, filled(0), want)
	}
}

// TestLinePalettes: colour 0 of a sprite is never seen, the colours below are by
// the palette Back, and those of a sprite by First or Second.
func TestLinePalettes(t *testing.T) {
	vram := memory()
	vram[0x54], vram[0x55] = 0x55, 0x33 // 0 1 2 3 0 1 2 3
	l := Look{Control: 2, Back: 0x1b, First: 0xd1, Second: 0x2d}
	oam := []byte{16, 8, 5, 0, 16, 24, 5, 0x10, 16, 40, 5, 0x6f, 16, 56, 5, 0xff}
	below := [api.Wide]byte{}
	want := filled(3)
	copy(want[0:], []byte{3, 0, 1, 3, 3, 0, 1, 3})
	copy(want[16:], []byte{3, 3, 2, 0, 3, 3, 2, 0})
	isLine(t, l, vram, oam, 2, below, want)
	want = filled(3)
	copy(want[32:], []byte{3, 1, 0, 3, 3, 1, 0, 3})
	copy(want[48:], []byte{0, 2, 3, 3, 0, 2, 3, 3})
	isLine(t, l, vram, oam, 5, below, want)
}

// TestLineBehind: a sprite behind the background is seen above colour 0 only,
// and colours below are taken modulo 4.
func TestLineBehind(t *testing.T) {
	below := only(0, 0, 1, 2, 3, 4, 5, 0xfc, 0xff, 0x80, 0x40)
	oam := []byte{16, 8, 4, 0x80}
	l := Look{Control: 2, Back: plain, First: 0x95, Second: plain}
	isLine(t, l, memory(), oam, 0, below, only(0, 2, 1, 2, 3, 2, 1, 2, 3))
	oam[3] = 0x7f &^ 0x10
	isLine(t, l, memory(), oam, 0, below, only(0, 2, 2, 2, 2, 2, 2, 2, 2))
	oam[3] = 0x90
	isLine(t, l, memory(), oam, 0, below, only(0, 3, 1, 2, 3, 3, 1, 3, 3))
	isLine(t, l, memory(), nil, 0, below, only(0, 0, 1, 2, 3, 0, 1, 0, 3, 0, 0))
	l.Back = swapped
	want := filled(3)
	copy(want[:], []byte{3, 2, 1, 0, 3, 2, 3, 0})
	isLine(t, l, memory(), oam, 0, below, want)
}

// TestLineLeastX: the uppermost sprite is the one with the least X, and of
// several with that X the one with the least number.
func TestLineLeastX(t *testing.T) {
	vram := memory()
	oam := []byte{16, 12, 3, 0, 16, 10, 4, 0, 16, 8, 2, 0}
	isLine(t, look(), vram, oam, 0, filled(0), only(0, 1, 1, 1, 1, 1, 1, 1, 1, 3, 3, 2, 2))
	oam = []byte{16, 9, 2, 0, 16, 8, 3, 0, 16, 9, 4, 0, 16, 8, 4, 0, 16, 8, 2, 0}
	isLine(t, look(), vram, oam, 0, filled(0), only(0, 2, 2, 2, 2, 2, 2, 2, 2, 1))
	oam = []byte{16, 136, 2, 0, 16, 128, 3, 0, 16, 127, 4, 0}
	isLine(t, look(), vram, oam, 0, filled(0), only(119, 3, 3, 3, 3, 3, 3, 3, 3, 2, 1, 1, 1, 1, 1, 1, 1, 1))
	// The left edge of the screen: X is below 8, and the least X is beyond it.
	oam = []byte{16, 7, 2, 0, 16, 1, 3, 0}
	isLine(t, look(), vram, oam, 0, filled(0), only(0, 2, 1, 1, 1, 1, 1, 1))
}

// TestLineSeenThrough: colour 0 of a sprite lets those below it be seen, in
// whatever order they come.
func TestLineSeenThrough(t *testing.T) {
	vram := memory()
	oam := []byte{16, 8, 5, 0, 16, 9, 2, 0}
	isLine(t, look(), vram, oam, 2, filled(0), only(0, 0, 2, 3, 3, 3, 3, 2, 1, 1))
	oam = []byte{16, 9, 2, 0, 16, 8, 5, 0}
	isLine(t, look(), vram, oam, 2, filled(0), only(0, 0, 2, 3, 3, 3, 3, 2, 1, 1))
	oam = []byte{16, 8, 5, 0, 16, 8, 2, 0}
	isLine(t, look(), vram, oam, 2, filled(0), only(0, 1, 2, 3, 3, 3, 3, 2, 1))
}

// TestLineBehindHides: an uppermost sprite behind the background hides the ones
// below it although it is not seen itself.
func TestLineBehindHides(t *testing.T) {
	vram := memory()
	below := only(0, 1, 1, 0, 0, 1, 1, 1, 1, 1, 1, 1, 1)
	oam := []byte{16, 8, 4, 0x80, 16, 10, 3, 0}
	isLine(t, look(), vram, oam, 0, below, only(0, 1, 1, 3, 3, 1, 1, 1, 1, 2, 2, 1, 1))
	// It does not hide them where its colour is 0.
	oam[2] = 5
	isLine(t, look(), vram, oam, 2, below, only(0, 1, 1, 3, 3, 1, 1, 1, 2, 2, 2, 1, 1))
	// The order of the numbers is the same, the order of X is another one.
	oam = []byte{16, 10, 4, 0x80, 16, 8, 3, 0}
	isLine(t, look(), vram, oam, 0, below, only(0, 2, 2, 2, 2, 2, 2, 2, 2, 1, 1, 1, 1))
}

// TestLineWithout: P14.3. Without sprites, a line is what is below, by the
// palette Back.
func TestLineWithout(t *testing.T) {
	var below, want [api.Wide]byte
	for x := range below {
		below[x] = byte(x * 3)
		want[x] = []byte{2, 0, 3, 1}[x*3%4]
	}
	l := Look{Control: 0xff, Back: 0x72, First: 0x55, Second: 0x55}
	for line := range api.Lines {
		isLine(t, l, memory(), nil, line, below, want)
		isLine(t, l, memory(), slices.Repeat([]byte{200, 80, 4, 0}, 40), line, below, want)
	}
}

// TestLineNotScanned: P14.3. A sprite that is not returned by Scan changes
// nothing, even if it would be the uppermost one; one that is returned counts
// although nothing of it is seen.
func TestLineNotScanned(t *testing.T) {
	vram := memory()
	oam := slices.Repeat([]byte{16, 50, 2, 0}, 10)
	oam = append(oam, 16, 20, 4, 0)
	oam = append(oam, slices.Repeat([]byte{16, 49, 4, 0}, 29)...)
	want := only(42, 1, 1, 1, 1, 1, 1, 1, 1)
	isLine(t, look(), vram, oam, 0, filled(0), want)
	// One of the first ten is elsewhere, so the next one is scanned.
	oam[12] = 100
	copy(want[12:], []byte{3, 3, 3, 3, 3, 3, 3, 3})
	isLine(t, look(), vram, oam, 0, filled(0), want)
	// Ten that are not seen leave no room.
	oam = slices.Repeat([]byte{16, 0, 4, 0}, 10)
	oam = append(oam, 16, 20, 4, 0)
	isLine(t, look(), vram, oam, 0, filled(0), filled(0))
	isLine(t, look(), vram, oam[4:], 0, filled(0), only(12, 3, 3, 3, 3, 3, 3, 3, 3))
}

// TestLineTall: the lower half of high sprites.
func TestLineTall(t *testing.T) {
	l := look()
	l.Control = 6
	oam := []byte{16, 8, 2, 0, 16, 16, 3, 0x40, 16, 24, 5, 0, 8, 32, 4, 0}
	isLine(t, l, memory(), oam, 0, filled(0), only(0, 1, 1, 1, 1, 1, 1, 1, 1, 2, 2, 2, 2, 2, 2, 2, 2, 3, 3, 3, 3, 3, 3, 3, 3))
	isLine(t, l, memory(), oam, 10, filled(0), only(0, 2, 2, 2, 2, 2, 2, 2, 2, 1, 1, 1, 1, 1, 1, 1, 1, 0, 2, 3, 3, 3, 3, 2))
}

// TestLineMissing: bytes beyond the slices are 0, whatever the memory there.
func TestLineMissing(t *testing.T) {
	whole := slices.Repeat([]byte{16, 8, 4, 0xff}, 40)
	isLine(t, look(), memory(), whole[:0], 0, filled(0), filled(0))
	isLine(t, look(), memory(), whole[:3], 0, only(2, 1, 2), only(0, 3, 3, 3, 3, 3, 3, 3, 3))
	isLine(t, look(), memory(), whole[:4], 0, only(2, 1, 2), only(0, 3, 3, 1, 2, 3, 3, 3, 3))
	isLine(t, look(), memory()[:0x40], whole, 0, filled(2), filled(2))
	isLine(t, look(), memory()[:0x4f], whole, 0, filled(0), only(0, 1, 1, 1, 1, 1, 1, 1, 1))
	isLine(t, look(), nil, whole, 0, filled(3), filled(3))
	vram := slices.Repeat([]byte{0xff}, 0x1000)
	isLine(t, look(), vram, nil, -16, filled(1), filled(1))
}

// TestLineFarLines: lines that no screen has.
func TestLineFarLines(t *testing.T) {
	oam := slices.Repeat([]byte{0, 8, 4, 0}, 20)
	isLine(t, look(), memory(), oam, -9, filled(0), only(0, 3, 3, 3, 3, 3, 3, 3, 3))
	for _, line := range []int{math.MinInt, math.MinInt + 16, -1 << 32, -17, -8, 247, 256, 1 << 32, math.MaxInt - 15, math.MaxInt} {
		isLine(t, look(), memory(), oam, line, filled(1), filled(1))
	}
}

// TestUnchanged: no argument is changed, and results are new in each call.
func TestUnchanged(t *testing.T) {
	vram := memory()
	oam := []byte{16, 12, 3, 0, 16, 10, 4, 0x80, 16, 8, 2, 0}
	below := filled(1)
	l := look()
	vramBefore, oamBefore := slices.Clone(vram), slices.Clone(oam)
	shades := l.Line(vram, oam, 0, below)
	scanned := l.Scan(oam, 0)
	l.Dot(vram, oam, 1, 5, 5)
	if l != look() || below != filled(1) || !slices.Equal(vram, vramBefore) || !slices.Equal(oam, oamBefore) {
		t.Error("an argument has changed")
	}
	again := l.Scan(oam, 0)
	scanned[0] = 9
	if !slices.Equal(again, []int{0, 1, 2}) || l.Line(vram, oam, 0, below) != shades {
		t.Error("a result has changed")
	}
	isScan(t, l, oam, 0, 0, 1, 2)
}
