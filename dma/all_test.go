package dma

import (
	"math"
	"strconv"
	"strings"
	"testing"
)

// The tests of this file hold the functions against a second reading of the
// document, in lists of pages and texts of hexadecimal digits.

// hexadecimal returns a number with this many hexadecimal digits.
func hexadecimal(x, digits int) string {
	text := strconv.FormatInt(int64(x), 16)
	return strings.Repeat("0", digits-len(text)) + text
}

// wantFrom returns where a byte of a page should be copied from.
func wantFrom(page byte, number int) uint16 {
	text := hexadecimal(int(page), 2)
	switch text[0] {
	case 'e':
		text = "c" + text[1:]
	case 'f':
		text = "d" + text[1:]
	}
	start, err := strconv.ParseInt(text+"00", 16, 64)
	if err != nil {
		panic(err)
	}
	return uint16(((start+int64(number))%0x10000 + 0x10000) % 0x10000)
}

// wantTick checks Tick of a copier, and returns it a cycle later.
func wantTick(t *testing.T, c Copier) Copier {
	t.Helper()
	if c.Left <= 0 {
		ticked(t, c, c, 0, 0, false)
		return c
	}
	number := 160 - c.Left
	want := Copier{Page: c.Page, Left: c.Left - 1}
	ticked(t, c, want, wantFrom(c.Page, number), number, true)
	return want
}

// numbersLeft returns numbers of remaining bytes, also such as no call sets.
func numbersLeft() []int {
	numbers := []int{math.MinInt, math.MinInt + 1, -0x10000, 0x10000, math.MaxInt - 1, math.MaxInt}
	for left := -300; left <= 600; left++ {
		numbers = append(numbers, left)
	}
	return numbers
}

func TestEveryTick(t *testing.T) {
	for page := range 0x100 {
		for _, left := range numbersLeft() {
			wantTick(t, Copier{Page: byte(page), Left: left})
		}
	}
}

func TestEveryWrite(t *testing.T) {
	for page := range 0x100 {
		for _, left := range numbersLeft() {
			x := byte(page*7 + left)
			written(t, Copier{Page: byte(page), Left: left}, x, Copier{Page: x, Left: 160})
		}
	}
}

func TestEveryBusy(t *testing.T) {
	for page := range 0x100 {
		for _, left := range numbersLeft() {
			isBusy(t, Copier{Page: byte(page), Left: left}, left >= 1)
		}
	}
}

func TestEveryAddress(t *testing.T) {
	for _, c := range []Copier{
		{}, {Page: 0xc1}, {Page: 0xff, Left: -1}, {Left: math.MinInt},
		{Left: 1}, {Page: 0xc1, Left: 80}, {Page: 0xff, Left: 160}, {Left: math.MaxInt},
	} {
		for addr := range 0x10000 {
			open := strings.HasPrefix(hexadecimal(addr, 4), "ff")
			lets(t, c, uint16(addr), c.Left < 1 || open)
		}
	}
}

// TestWholePage: P11.3, for every page, and then nothing more.
func TestWholePage(t *testing.T) {
	for page := range 0x100 {
		c := Copier{Page: 0x5a, Left: page % 3}.Write(byte(page))
		for number := range 160 {
			isBusy(t, c, true)
			lets(t, c, 0xfeff, false)
			lets(t, c, 0xff00, true)
			next, from, to, ok := c.Tick()
			if from != wantFrom(byte(page), number) || to != number || !ok {
				t.Errorf("page %02x, byte %d: %04x, %d, %t", page, number, from, to, ok)
			}
			c = next
		}
		isBusy(t, c, false)
		lets(t, c, 0, true)
		if later := after(c, 1000); later != (Copier{Page: byte(page)}) {
			t.Errorf("page %02x: %+v later", page, later)
		}
		ticked(t, c, Copier{Page: byte(page)}, 0, 0, false)
	}
}

// TestVariedRuns: runs of calls from the zero value.
func TestVariedRuns(t *testing.T) {
	x := uint64(1)
	below := func(limit uint64) int {
		x = x*6364136223846793005 + 1442695040888963407
		return int((x >> 33) % limit)
	}
	for range 300 {
		var c Copier
		for range 30 {
			page := byte(below(256))
			written(t, c, page, Copier{Page: page, Left: 160})
			c = Copier{Page: page, Left: 160}
			for range below(250) {
				c = wantTick(t, c)
				addr := below(0x10000)
				lets(t, c, uint16(addr), c.Left < 1 || addr/256 == 255)
			}
		}
	}
}
