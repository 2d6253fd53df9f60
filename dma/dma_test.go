package dma

import (
	"math"
	"testing"
)

// ticked checks the results of Tick.
func ticked(t *testing.T, c, want Copier, from uint16, to int, copied bool) {
	t.Helper()
	before := c
	got, gotFrom, gotTo, ok := c.Tick()
	if got != want || gotFrom != from || gotTo != to || ok != copied {
		t.Errorf("Tick of %+v = %+v, %04x, %d, %t, want %+v, %04x, %d, %t",
			c, got, gotFrom, gotTo, ok, want, from, to, copied)
	}
	if c != before {
		t.Errorf("Tick changed %+v to %+v", before, c)
	}
}

// written checks the result of Write.
func written(t *testing.T, c Copier, x byte, want Copier) {
	t.Helper()
	before := c
	if got := c.Write(x); got != want {
		t.Errorf("Write(%02x) of %+v = %+v, want %+v", x, c, got, want)
	}
	if c != before {
		t.Errorf("Write(%02x) changed %+v to %+v", x, before, c)
	}
}

// isBusy checks the result of Busy.
func isBusy(t *testing.T, c Copier, want bool) {
	t.Helper()
	before := c
	if got := c.Busy(); got != want {
		t.Errorf("Busy of %+v = %t", c, got)
	}
	if c != before {
		t.Errorf("Busy changed %+v to %+v", before, c)
	}
}

// lets checks the result of Lets.
func lets(t *testing.T, c Copier, addr uint16, want bool) {
	t.Helper()
	before := c
	if got := c.Lets(addr); got != want {
		t.Errorf("Lets(%04x) of %+v = %t", addr, c, got)
	}
	if c != before {
		t.Errorf("Lets(%04x) changed %+v to %+v", addr, before, c)
	}
}

// after returns the copier after some cycles.
func after(c Copier, cycles int) Copier {
	for range cycles {
		c, _, _, _ = c.Tick()
	}
	return c
}

// TestExample: the example of the chapter.
func TestExample(t *testing.T) {
	c := Copier{}.Write(0xc1)
	ticked(t, c, Copier{Page: 0xc1, Left: 159}, 0xc100, 0, true)
	ticked(t, after(c, 159), Copier{Page: 0xc1}, 0xc19f, 0x9f, true)
}

func TestWrite(t *testing.T) {
	for _, c := range []Copier{
		{},
		{Page: 0xc1},
		{Page: 0xc1, Left: 160},
		{Page: 0xff, Left: 1},
		{Left: 80},
		// Numbers that only a caller can set.
		{Page: 0xc1, Left: -1},
		{Page: 0xc1, Left: 161},
		{Left: math.MaxInt},
		{Left: math.MinInt},
	} {
		for x := range 0x100 {
			written(t, c, byte(x), Copier{Page: byte(x), Left: 160})
		}
	}
}

func TestTick(t *testing.T) {
	for _, x := range []struct {
		copier Copier
		left   int
		from   uint16
		to     int
	}{
		{Copier{Page: 0xc1, Left: 160}, 159, 0xc100, 0},
		{Copier{Page: 0xc1, Left: 159}, 158, 0xc101, 1},
		{Copier{Page: 0xc1, Left: 80}, 79, 0xc150, 80},
		{Copier{Page: 0xc1, Left: 2}, 1, 0xc19e, 158},
		{Copier{Page: 0xc1, Left: 1}, 0, 0xc19f, 159},
		// The first page, and the pages beside those that begin lower.
		{Copier{Page: 0x00, Left: 160}, 159, 0x0000, 0},
		{Copier{Page: 0x00, Left: 1}, 0, 0x009f, 159},
		{Copier{Page: 0x7f, Left: 160}, 159, 0x7f00, 0},
		{Copier{Page: 0x80, Left: 160}, 159, 0x8000, 0},
		{Copier{Page: 0xdf, Left: 160}, 159, 0xdf00, 0},
		{Copier{Page: 0xdf, Left: 1}, 0, 0xdf9f, 159},
		{Copier{Page: 0xe0, Left: 160}, 159, 0xc000, 0},
		{Copier{Page: 0xe0, Left: 1}, 0, 0xc09f, 159},
		{Copier{Page: 0xe3, Left: 160}, 159, 0xc300, 0},
		{Copier{Page: 0xfe, Left: 160}, 159, 0xde00, 0},
		{Copier{Page: 0xff, Left: 160}, 159, 0xdf00, 0},
		{Copier{Page: 0xff, Left: 1}, 0, 0xdf9f, 159},
	} {
		// The page is the one that was written, also where it begins lower.
		want := Copier{Page: x.copier.Page, Left: x.left}
		ticked(t, x.copier, want, x.from, x.to, true)
	}
}

// TestTickWhenNotBusy: the copier stays as it is.
func TestTickWhenNotBusy(t *testing.T) {
	for _, page := range []byte{0x00, 0x01, 0xc1, 0xdf, 0xe0, 0xff} {
		for _, left := range []int{0, -1, -2, -160, math.MinInt} {
			c := Copier{Page: page, Left: left}
			ticked(t, c, c, 0, 0, false)
		}
	}
}

// TestTickOfOtherNumbers: numbers of remaining bytes that no call sets. The
// number of the byte is below 0 then, and addresses wrap round.
func TestTickOfOtherNumbers(t *testing.T) {
	ticked(t, Copier{Page: 0xc1, Left: 161}, Copier{Page: 0xc1, Left: 160}, 0xc0ff, -1, true)
	ticked(t, Copier{Page: 0x00, Left: 161}, Copier{Left: 160}, 0xffff, -1, true)
	ticked(t, Copier{Page: 0xe0, Left: 161}, Copier{Page: 0xe0, Left: 160}, 0xbfff, -1, true)
	ticked(t, Copier{Page: 0x01, Left: 160 + 0x10000}, Copier{Page: 0x01, Left: 159 + 0x10000}, 0x0100, -0x10000, true)
	ticked(t, Copier{Left: math.MaxInt}, Copier{Left: math.MaxInt - 1}, 0x00a1, 160-math.MaxInt, true)
}

func TestBusy(t *testing.T) {
	for _, page := range []byte{0x00, 0xc1, 0xff} {
		for _, left := range []int{1, 2, 80, 159, 160, 161, 256, 0x10000, math.MaxInt} {
			isBusy(t, Copier{Page: page, Left: left}, true)
		}
		for _, left := range []int{0, -1, -160, -256, math.MinInt} {
			isBusy(t, Copier{Page: page, Left: left}, false)
		}
	}
}

func TestLets(t *testing.T) {
	closed := []uint16{0x0000, 0x0100, 0x7fff, 0x8000, 0xa000, 0xc000, 0xc100, 0xe000, 0xfdff, 0xfe00, 0xfe9f, 0xfeff}
	open := []uint16{0xff00, 0xff01, 0xff46, 0xff7f, 0xff80, 0xfffe, 0xffff}
	for _, page := range []byte{0x00, 0xc1, 0xff} {
		for _, left := range []int{1, 80, 160, 161, math.MaxInt} {
			for _, addr := range closed {
				lets(t, Copier{Page: page, Left: left}, addr, false)
			}
			for _, addr := range open {
				lets(t, Copier{Page: page, Left: left}, addr, true)
			}
		}
		for _, left := range []int{0, -1, -160, math.MinInt} {
			for _, addr := range append(open, closed...) {
				lets(t, Copier{Page: page, Left: left}, addr, true)
			}
		}
	}
}

// TestZero: the zero value is not busy.
func TestZero(t *testing.T) {
	isBusy(t, Copier{}, false)
	ticked(t, Copier{}, Copier{}, 0, 0, false)
	lets(t, Copier{}, 0, true)
	lets(t, Copier{}, 0xfeff, true)
}

// TestBeginAgain: a copy that is begun again copies the whole of the new page.
func TestBeginAgain(t *testing.T) {
	for cycles := range 200 {
		c := after(Copier{}.Write(0xc1), cycles)
		written(t, c, 0xd2, Copier{Page: 0xd2, Left: 160})
		c = c.Write(0xd2)
		for number := range 160 {
			want := Copier{Page: 0xd2, Left: 159 - number}
			ticked(t, c, want, 0xd200+uint16(number), number, true)
			c = want
		}
		ticked(t, c, c, 0, 0, false)
	}
}
