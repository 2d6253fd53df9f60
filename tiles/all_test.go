package tiles

import (
	"math"
	"slices"
	"strconv"
	"strings"
	"testing"

	"retrograde/api"
)

// The tests of this file hold the functions against a second reading of the
// document: all tiles and both maps are painted as a whole, from texts of bits,
// and looked up then.

// painted is a tile map with all of its pixels, by rows.
type painted [256][256]byte

// bitTexts are the bytes from 0 to 255 as texts of eight bits, bit 7 first.
func bitTexts() []string {
	texts := make([]string, 256)
	for b := range texts {
		text := strconv.FormatInt(int64(b), 2)
		texts[b] = strings.Repeat("0", 8-len(text)) + text
	}
	return texts
}

// numbers returns a function that returns other numbers in each call, the same
// in each run.
func numbers() func(below int) int {
	x := uint64(1)
	return func(below int) int {
		x = x*6364136223846793005 + 1442695040888963407
		return int(x>>33) % below
	}
}

// varied returns that many bytes of all kinds.
func varied(number func(below int) int, size int) []byte {
	vram := make([]byte, size)
	for i := range vram {
		vram[i] = byte(number(256))
	}
	return vram
}

// paintTiles returns the 384 tiles of a video memory, row by row.
func paintTiles(vram []byte) [384][8][8]byte {
	whole := make([]byte, 0x2000)
	copy(whole, vram)
	texts := bitTexts()
	var tiles [384][8][8]byte
	for pair := range 384 * 8 {
		low, high := texts[whole[2*pair]], texts[whole[2*pair+1]]
		for x := range 8 {
			tiles[pair/8][pair%8][x] = low[x] - '0' + 2*(high[x]-'0')
		}
	}
	return tiles
}

// paintMap returns a tile map of a video memory, painted.
func paintMap(vram []byte, start int, plain bool) *painted {
	whole := make([]byte, 0x2000)
	copy(whole, vram)
	tiles := paintTiles(vram)
	picture := new(painted)
	for place, b := range whole[start : start+1024] {
		tile := wantNumber(b, plain)
		for dot := range 64 {
			picture[place/32*8+dot/8][place%32*8+dot%8] = tiles[tile][dot/8][dot%8]
		}
	}
	return picture
}

// wantNumber returns the tile number for a byte of a map.
func wantNumber(b byte, plain bool) int {
	number := int(b)
	if !plain && number < 128 {
		number += 256
	}
	return number
}

// maps are the two tile maps that a view selects, painted.
type maps struct{ back, window *painted }

// paint returns the maps of a view.
func paint(v View, vram []byte) maps {
	bits := bitTexts()[v.Control]
	start := map[byte]int{'0': 0x1800, '1': 0x1c00}
	plain := bits[3] == '1'
	return maps{back: paintMap(vram, start[bits[4]], plain), window: paintMap(vram, start[bits[1]], plain)}
}

// modulo returns x modulo 256, as a number from 0 to 255.
func modulo(x int) int {
	return (x%256 + 256) % 256
}

// wantBack returns what Back should return.
func (m maps) wantBack(v View, x, y int) byte {
	return m.back[modulo(modulo(y)+int(v.ScrollY))][modulo(modulo(x)+int(v.ScrollX))]
}

// wantWindow returns what Window should return.
func (m maps) wantWindow(x, y int) byte {
	return m.window[modulo(y)][modulo(x)]
}

// wantLine returns what Line should return.
func (m maps) wantLine(v View, line, own int) ([api.Wide]byte, bool) {
	var want [api.Wide]byte
	bits := bitTexts()[v.Control]
	if bits[7] == '0' {
		return want, false
	}
	for x := range want {
		want[x] = m.wantBack(v, x, line)
	}
	if bits[2] == '0' || line < int(v.WindowY) || v.WindowX >= 167 {
		return want, false
	}
	for within := range 256 {
		if x := within + int(v.WindowX) - 7; x >= 0 && x < api.Wide {
			want[x] = m.wantWindow(within, own)
		}
	}
	return want, true
}

// someView returns a view of any kind.
func someView(number func(below int) int) View {
	return View{
		Control: byte(number(256)),
		ScrollX: byte(number(256)), ScrollY: byte(number(256)),
		WindowX: byte(number(256)), WindowY: byte(number(256)),
	}
}

// places are numbers of pixels and lines, also such as the screen does not have.
func places(number func(below int) int) []int {
	return []int{
		math.MinInt, math.MinInt + 5, -1 << 32, -257, -256, -255, -9, -8, -1, 0, 1, 7, 8, 143, 144, 159, 160,
		255, 256, 257, 1 << 32, math.MaxInt - 200, math.MaxInt, number(256), number(256), number(0x10000) - 0x8000,
	}
}

func TestEveryDot(t *testing.T) {
	number := numbers()
	for _, size := range []int{0x2000, 0x1800, 0x17ff, 0x1001, 0x123, 1, 0, 0x3000} {
		vram := varied(number, size)
		tiles := paintTiles(vram)
		for tile := range tiles {
			for y := -16; y < 24; y++ {
				for x := -16; x < 24; x++ {
					isDot(t, vram, tile, x, y, tiles[tile][(y+16)%8][(x+16)%8])
				}
			}
		}
		for tile := 384; tile < 2000; tile++ {
			isDot(t, vram, tile, tile, tile/8, 0)
			isDot(t, vram, 383-tile, tile, tile/8, 0)
		}
	}
}

// TestEveryRow: each pair of bytes.
func TestEveryRow(t *testing.T) {
	texts := bitTexts()
	for low := range 256 {
		for high := range 256 {
			vram := []byte{5: 0xff, 6: byte(low), 7: byte(high), 8: 0xff}
			for x := range 8 {
				isDot(t, vram, 0, x, 3, texts[low][x]-'0'+2*(texts[high][x]-'0'))
			}
		}
	}
}

func TestEveryNumber(t *testing.T) {
	for control := range 256 {
		plain := bitTexts()[control][3] == '1'
		for b := range 256 {
			v := View{Control: byte(control), ScrollX: byte(b), WindowY: byte(control)}
			isNumber(t, v, byte(b), wantNumber(byte(b), plain))
		}
	}
}

// TestEveryPlace: each pixel of the maps, with every Control.
func TestEveryPlace(t *testing.T) {
	number := numbers()
	for control := range 256 {
		v := someView(number)
		v.Control = byte(control)
		vram := varied(number, 0x2000)
		m := paint(v, vram)
		for y := range 256 {
			for x := control % 7; x < 256; x += 7 {
				isBack(t, v, vram, x, y, m.wantBack(v, x, y))
				isWindow(t, v, vram, x, y, m.wantWindow(x, y))
			}
		}
	}
}

// TestOtherPlaces: places that the maps do not have, and memories of any size.
func TestOtherPlaces(t *testing.T) {
	number := numbers()
	for range 60 {
		v := someView(number)
		vram := varied(number, 0x2100)
		vram = vram[:number(len(vram)+1)]
		m := paint(v, vram)
		for _, y := range places(number) {
			for _, x := range places(number) {
				isBack(t, v, vram, x, y, m.wantBack(v, x, y))
				isWindow(t, v, vram, x, y, m.wantWindow(x, y))
			}
		}
	}
}

// TestEveryWindow: each place of the window, in lines above and below its edge.
func TestEveryWindow(t *testing.T) {
	number := numbers()
	v := View{Control: 0x71, ScrollX: 0x35, ScrollY: 0x53}
	vram := varied(number, 0x2000)
	m := paint(v, vram)
	for windowX := range 256 {
		for windowY := range 256 {
			v.WindowX, v.WindowY = byte(windowX), byte(windowY)
			for _, line := range []int{windowY - 1, windowY, number(256)} {
				own := number(256)
				want, visible := m.wantLine(v, line, own)
				isLine(t, v, vram, line, own, want, visible)
			}
		}
	}
}

// TestEveryLine: lines with every Control, also such as the screen does not
// have.
func TestEveryLine(t *testing.T) {
	number := numbers()
	for control := range 256 {
		v := someView(number)
		v.Control = byte(control)
		vram := varied(number, 0x2000)
		m := paint(v, vram)
		for _, line := range places(number) {
			v.WindowX, v.WindowY = byte(number(175)), byte(number(160))
			for _, own := range places(number)[number(5):] {
				want, visible := m.wantLine(v, line, own)
				isLine(t, v, vram, line, own, want, visible)
			}
		}
	}
}

// TestEveryShade: each palette with each colour.
func TestEveryShade(t *testing.T) {
	for palette, bits := range bitTexts() {
		shades := []string{bits[6:], bits[4:6], bits[2:4], bits[:2]}
		for colour := range 256 {
			want := slices.Index([]string{"00", "01", "10", "11"}, shades[colour%4])
			if got := Shade(byte(palette), byte(colour)); int(got) != want {
				t.Errorf("Shade(%02x, %d) = %d, want %d", palette, colour, got, want)
			}
		}
	}
}
