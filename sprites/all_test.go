package sprites

import (
	"math"
	"slices"
	"strconv"
	"strings"
	"testing"

	"retrograde/api"
)

// The tests of this file hold the functions against a second reading of the
// document: each sprite is painted as a whole, from texts of bits, flipped as a
// whole, and put on a sheet that is large enough for all of them.

// The place of the screen on a sheet, and the size of it.
const (
	sheetLeft = 8
	sheetTop  = 16
	sheetWide = 272
	sheetHigh = 272
)

// sheet has the colours of one sprite, by lines, and which lines it occupies.
type sheet struct {
	colours  [sheetHigh][sheetWide]byte
	occupied [sheetHigh]bool
}

// bits returns a byte as a text of eight bits, bit 7 first.
func bits(b byte) string {
	text := strconv.FormatInt(int64(b), 2)
	return strings.Repeat("0", 8-len(text)) + text
}

// numbers returns a function that returns other numbers in each call, the same
// in each run.
func numbers() func(below int) int {
	x := uint64(1)
	return func(below int) int {
		x = x*6364136223846793005 + 1442695040888963407
		return int(x>>33) % below
	}
}

// varied returns that many bytes of all kinds.
func varied(number func(below int) int, size int) []byte {
	bytes := make([]byte, size)
	for i := range bytes {
		bytes[i] = byte(number(256))
	}
	return bytes
}

// crowd returns a sprite memory with sprites that are near each other, some of
// them at the same place.
func crowd(number func(below int) int) []byte {
	var oam []byte
	y, x := number(256), number(200)
	for range 40 {
		oam = append(oam, byte(y+number(20)), byte(x+3*number(10)), byte(number(256)), byte(number(256)))
	}
	return oam
}

// picture returns the rows of a sprite of that tile, before it is flipped.
func picture(vram []byte, tile int, tall bool) [][]byte {
	whole := make([]byte, 0x2000)
	copy(whole, vram)
	first, rows := tile, 8
	if tall {
		first, rows = tile/2*2, 16
	}
	var painted [][]byte
	for pair := range rows {
		low, high := bits(whole[first*16+2*pair]), bits(whole[first*16+2*pair+1])
		var row []byte
		for x := range 8 {
			row = append(row, low[x]-'0'+2*(high[x]-'0'))
		}
		painted = append(painted, row)
	}
	return painted
}

// paint returns the sheets of all sprites.
func paint(l Look, vram, oam []byte) []*sheet {
	whole := make([]byte, 160)
	copy(whole, oam)
	tall := bits(l.Control)[5] == '1'
	var sheets []*sheet
	for s := range slices.Chunk(whole, 4) {
		painted := picture(vram, int(s[2]), tall)
		attributes := bits(s[3])
		if attributes[1] == '1' {
			slices.Reverse(painted)
		}
		put := new(sheet)
		for y, row := range painted {
			if attributes[2] == '1' {
				slices.Reverse(row)
			}
			copy(put.colours[int(s[0])+y][s[1]:], row)
			put.occupied[int(s[0])+y] = true
		}
		sheets = append(sheets, put)
	}
	return sheets
}

// wantScan returns what Scan should return.
func wantScan(sheets []*sheet, line int) []int {
	if line < -sheetTop || line >= sheetHigh-sheetTop {
		return nil
	}
	var all []int
	for n, s := range sheets {
		if s.occupied[line+sheetTop] {
			all = append(all, n)
		}
	}
	return all[:min(len(all), 10)]
}

// wantDot returns what Dot should return.
func wantDot(sheets []*sheet, n, x, line int) byte {
	if n < 0 || n > 39 || x < -sheetLeft || x >= sheetWide-sheetLeft || line < -sheetTop || line >= sheetHigh-sheetTop {
		return 0
	}
	return sheets[n].colours[line+sheetTop][x+sheetLeft]
}

// wantShade returns what Shade should return.
func wantShade(palette, colour byte) byte {
	place := 6 - 2*int(colour%4)
	return map[string]byte{"00": 0, "01": 1, "10": 2, "11": 3}[bits(palette)[place:place+2]]
}

// wantLine returns what Line should return.
func wantLine(l Look, sheets []*sheet, oam []byte, line int, below [api.Wide]byte) [api.Wide]byte {
	whole := make([]byte, 160)
	copy(whole, oam)
	var want [api.Wide]byte
	for x, colour := range below {
		want[x] = wantShade(l.Back, colour)
		top, left := -1, 256
		for _, n := range wantScan(sheets, line) {
			if wantDot(sheets, n, x, line) != 0 && int(whole[4*n+1]) < left {
				top, left = n, int(whole[4*n+1])
			}
		}
		if top < 0 || bits(l.Control)[6] == '0' {
			continue
		}
		attributes := bits(whole[4*top+3])
		if attributes[0] == '1' && colour%4 != 0 {
			continue
		}
		palette := map[byte]byte{'0': l.First, '1': l.Second}[attributes[3]]
		want[x] = wantShade(palette, wantDot(sheets, top, x, line))
	}
	return want
}

// someLook returns a look of any kind.
func someLook(number func(below int) int) Look {
	return Look{
		Control: byte(number(256)),
		Back:    byte(number(256)), First: byte(number(256)), Second: byte(number(256)),
	}
}

// someBelow returns colours of any kind, many of them 0.
func someBelow(number func(below int) int) [api.Wide]byte {
	var below [api.Wide]byte
	for x := range below {
		if number(2) == 0 {
			below[x] = byte(number(256))
		}
	}
	return below
}

// far are numbers of sprites, places and lines, most of which there are none of.
func far() []int {
	return []int{
		math.MinInt, math.MinInt + 7, math.MinInt + 15, -1 << 32, -257, -256, -17, -16, -9, -8, -1, 0, 1, 7,
		39, 40, 159, 160, 246, 247, 248, 255, 256, 1 << 32, math.MaxInt - 247, math.MaxInt - 8, math.MaxInt,
	}
}

// TestEverySprite: each sprite of several memories, at each place that one can
// occupy.
func TestEverySprite(t *testing.T) {
	number := numbers()
	for _, control := range []byte{0, 4, 2, 0xff, 0xfb} {
		l := Look{Control: control}
		vram, oam := varied(number, 0x2000), varied(number, 160)
		sheets := paint(l, vram, oam)
		for n := range 40 {
			top, left := int(oam[4*n])-16, int(oam[4*n+1])-8
			for line := top - 3; line < top+19; line++ {
				for x := left - 3; x < left+11; x++ {
					isDot(t, l, vram, oam, n, x, line, wantDot(sheets, n, x, line))
				}
			}
		}
	}
}

// TestEveryAttribute: each kind of attributes, with many tile numbers.
func TestEveryAttribute(t *testing.T) {
	number := numbers()
	for attributes := range 256 {
		vram := varied(number, 0x2000)
		var oam []byte
		for range 40 {
			oam = append(oam, 16, 8, byte(number(256)), byte(attributes))
		}
		for _, control := range []byte{2, 6} {
			isPainted(t, Look{Control: control}, vram, oam)
		}
	}
}

// TestEveryTile: each tile number.
func TestEveryTile(t *testing.T) {
	vram := varied(numbers(), 0x2000)
	for first := 0; first < 256; first += 40 {
		var oam []byte
		for n := range 40 {
			oam = append(oam, 16, 8, byte(first+n), 0)
		}
		for _, control := range []byte{0, 4} {
			isPainted(t, Look{Control: control}, vram, oam)
		}
	}
}

// isPainted checks the results of Dot for 40 sprites in the upper left corner of
// the screen, and around it.
func isPainted(t *testing.T, l Look, vram, oam []byte) {
	t.Helper()
	sheets := paint(l, vram, oam)
	for n := range 40 {
		for line := -1; line < 17; line++ {
			for x := -1; x < 9; x++ {
				isDot(t, l, vram, oam, n, x, line, wantDot(sheets, n, x, line))
			}
		}
	}
}

// TestFarPlaces: sprites, places and lines that there are none of, and memories
// of any size.
func TestFarPlaces(t *testing.T) {
	number := numbers()
	for range 25 {
		l := someLook(number)
		vram, oam := varied(number, 0x2100), varied(number, 200)
		vram, oam = vram[:number(len(vram)+1)], oam[:number(len(oam)+1)]
		sheets := paint(l, vram, oam)
		for _, line := range far() {
			isScan(t, l, oam, line, wantScan(sheets, line)...)
			below := someBelow(number)
			isLine(t, l, vram, oam, line, below, wantLine(l, sheets, oam, line, below))
			for _, n := range far() {
				for _, x := range far() {
					isDot(t, l, vram, oam, n, x, line, wantDot(sheets, n, x, line))
				}
			}
		}
	}
}

// TestEveryScan: each line, with sprites anywhere and with many in few lines.
func TestEveryScan(t *testing.T) {
	number := numbers()
	for round := range 200 {
		oam := varied(number, 160)
		if round%2 == 0 {
			oam = crowd(number)
		}
		oam = oam[:min(number(300), 160)]
		l := someLook(number)
		sheets := paint(l, nil, oam)
		for line := -20; line < 260; line++ {
			isScan(t, l, oam, line, wantScan(sheets, line)...)
		}
	}
}

// TestEveryLine: lines with sprites that hide each other.
func TestEveryLine(t *testing.T) {
	number := numbers()
	for round := range 256 {
		l := someLook(number)
		l.Control = byte(round) | 2
		vram, oam := varied(number, 0x2000), crowd(number)
		if round%4 == 0 {
			l.Control = byte(round)
			oam = varied(number, 160)
		}
		sheets := paint(l, vram, oam)
		first := int(oam[0]) - 16
		for line := first - 20; line < first+20; line += 2 {
			below := someBelow(number)
			isLine(t, l, vram, oam, line, below, wantLine(l, sheets, oam, line, below))
		}
	}
}

// TestNotScanned: P14.3. A line is as it is without the sprites that are not
// returned by Scan.
func TestNotScanned(t *testing.T) {
	number := numbers()
	for range 300 {
		l := someLook(number)
		vram, oam, below := varied(number, 0x2000), crowd(number), someBelow(number)
		line := int(oam[0]) - 16 + number(8)
		scanned := l.Scan(oam, line)
		var few []byte
		for _, n := range scanned {
			few = append(few, oam[4*n:4*n+4]...)
		}
		if len(scanned) == 0 {
			t.Fatal("no sprites: the sprites are not as this test wants them")
		}
		// Bytes that are missing are sprites too, but they are above the screen.
		if line < 0 {
			continue
		}
		isLine(t, l, vram, few, line, below, l.Line(vram, oam, line, below))
		none := append(slices.Repeat([]byte{byte(line + 100), 8, 1, 0}, 40), oam...)
		isLine(t, l, vram, none, line, below, wantLine(l, nil, nil, line, below))
	}
}
