package mbc

import (
	"math"
	"testing"

	"retrograde/header"
)

// made returns the initial map of a cartridge.
func made(kind, banks, ram int) Map {
	return New(header.Header{Kind: kind, Banks: banks, Ram: ram})
}

// written checks the result of Write.
func written(t *testing.T, m Map, addr uint16, x byte, want Map, latch bool) {
	t.Helper()
	before := m
	if got, l := m.Write(addr, x); got != want || l != latch {
		t.Errorf("Write(%04x, %02x) of %+v = %+v, %t, want %+v, %t", addr, x, m, got, l, want, latch)
	}
	if m != before {
		t.Errorf("Write(%04x, %02x) changed %+v to %+v", addr, x, before, m)
	}
}

// banked checks the banks that are visible below and from 4000 on.
func banked(t *testing.T, m Map, lower, upper int) {
	t.Helper()
	for _, x := range []struct {
		addr uint16
		bank int
	}{
		{0x0000, lower}, {0x3fff, lower}, {0x8000, lower}, {0xbfff, lower},
		{0x4000, upper}, {0x7fff, upper}, {0xc000, upper}, {0xffff, upper},
	} {
		if got := m.Bank(x.addr); got != x.bank {
			t.Errorf("Bank(%04x) of %+v = %#x, want %#x", x.addr, m, got, x.bank)
		}
		want := 0x4000*x.bank + int(x.addr&0x3fff)
		if got := m.Rom(x.addr); got != want {
			t.Errorf("Rom(%04x) of %+v = %#x, want %#x", x.addr, m, got, want)
		}
	}
}

// located checks the result of At.
func located(t *testing.T, m Map, addr uint16, want int, found bool) {
	t.Helper()
	if got, ok := m.At(addr); got != want || ok != found {
		t.Errorf("At(%04x) of %+v = %#x, %t, want %#x, %t", addr, m, got, ok, want, found)
	}
}

// clocked checks the result of Clock.
func clocked(t *testing.T, m Map, want int, found bool) {
	t.Helper()
	if got, ok := m.Clock(); got != want || ok != found {
		t.Errorf("Clock of %+v = %d, %t, want %d, %t", m, got, ok, want, found)
	}
}

// TestExamples: the examples of the chapter.
func TestExamples(t *testing.T) {
	m := made(1, 8, 0)
	m.Low = 3
	if got, _ := m.Write(0x2000, 0); got.Low != 1 {
		t.Errorf("Low is %d, want 1", got.Low)
	}
	m, _ = made(1, 8, 0).Write(0x2000, 9)
	banked(t, m, 0, 1)
}

func TestNew(t *testing.T) {
	for kind := -1; kind <= 7; kind++ {
		h := header.Header{Title: "T", Kind: kind, Clock: true, Battery: true, Banks: 4, Ram: 0x800, Whole: true}
		want := Map{Kind: kind, Banks: 4, Ram: 0x800, On: kind == 0, Mode: false, Low: 1, High: 0, Last: 0xff}
		if got := New(h); got != want {
			t.Errorf("New(%+v) = %+v, want %+v", h, got, want)
		}
	}
	if got, want := New(header.Header{}), (Map{On: true, Low: 1, Last: 0xff}); got != want {
		t.Errorf("New of no header = %+v, want %+v", got, want)
	}
}

// TestInitially: what is visible before the first write.
func TestInitially(t *testing.T) {
	for _, kind := range []int{0, 1, 2, 3, 5} {
		m := made(kind, 4, 0x2000)
		banked(t, m, 0, 1)
		clocked(t, m, 0, false)
		if kind == 0 {
			located(t, m, 0xa123, 0x123, true)
		} else {
			located(t, m, 0xa123, 0, false)
		}
	}
}

func TestWriteOfKind0(t *testing.T) {
	m := made(0, 2, 0x2000)
	for addr := range 0x10000 {
		for _, x := range []byte{0, 1, 2, 0xa, 0xff} {
			written(t, m, uint16(addr), x, m, false)
		}
	}
}

// TestEnable: On depends on the lower four bits of what is written, and on
// nothing else.
func TestEnable(t *testing.T) {
	for _, kind := range []int{1, 2, 3, 5} {
		for _, was := range []bool{false, true} {
			m := made(kind, 4, 0x2000)
			m.On = was
			want := m
			for x := range 0x100 {
				want.On = x%0x10 == 0xa
				for _, addr := range []uint16{0, 0xff, 0x1000, 0x1eff, 0x8000, 0x9eff} {
					written(t, m, addr, byte(x), want, false)
				}
			}
		}
	}
}

func TestWriteOfKind1(t *testing.T) {
	m := Map{Kind: 1, Banks: 128, Ram: 0x8000, On: true, Mode: true, Low: 0x15, High: 2, Last: 0x33}
	for x := range 0x100 {
		low, high, mode := m, m, m
		low.Low = max(1, x%0x20)
		high.High = x % 4
		mode.Mode = x%2 == 1
		for _, base := range []uint16{0, 0x8000} {
			written(t, m, base+0x2000, byte(x), low, false)
			written(t, m, base+0x3fff, byte(x), low, false)
			written(t, m, base+0x4000, byte(x), high, false)
			written(t, m, base+0x5fff, byte(x), high, false)
			written(t, m, base+0x6000, byte(x), mode, false)
			written(t, m, base+0x7fff, byte(x), mode, false)
		}
	}
	on := m
	on.On = false
	written(t, m, 0x1fff, 0, on, false)
}

func TestWriteOfKind2(t *testing.T) {
	m := Map{Kind: 2, Banks: 16, Ram: 0x200, On: true, Mode: true, Low: 5, High: 2, Last: 0x33}
	for x := range 0x100 {
		on, low := m, m
		on.On = x%0x10 == 0xa
		low.Low = max(1, x%0x10)
		for _, addr := range []uint16{0, 0xff, 0x200, 0x2000, 0x3e00, 0x3eff, 0x8000, 0xbeff} {
			written(t, m, addr, byte(x), on, false)
			written(t, m, addr+0x100, byte(x), low, false)
		}
		for _, addr := range []uint16{0x4000, 0x4100, 0x5fff, 0x6000, 0x7eff, 0x7fff, 0xc000, 0xffff} {
			written(t, m, addr, byte(x), m, false)
		}
	}
}

func TestWriteOfKind3(t *testing.T) {
	m := Map{Kind: 3, Banks: 128, Ram: 0x8000, On: true, Mode: true, Low: 5, High: 2, Last: 0x33}
	for x := range 0x100 {
		low, high, last := m, m, m
		low.Low = max(1, x%0x80)
		high.High = x % 0x10
		last.Last = byte(x)
		for _, base := range []uint16{0, 0x8000} {
			written(t, m, base+0x2000, byte(x), low, false)
			written(t, m, base+0x3fff, byte(x), low, false)
			written(t, m, base+0x4000, byte(x), high, false)
			written(t, m, base+0x5fff, byte(x), high, false)
			written(t, m, base+0x6000, byte(x), last, false)
			written(t, m, base+0x7fff, byte(x), last, false)
		}
	}
	on := m
	on.On = false
	written(t, m, 0x1fff, 0, on, false)
}

// TestLatch: the clock is to be latched when 1 is written directly after 0.
func TestLatch(t *testing.T) {
	for was := range 0x100 {
		for x := range 0x100 {
			m := made(3, 4, 0)
			m.Last = byte(was)
			want := m
			want.Last = byte(x)
			for _, addr := range []uint16{0x6000, 0x7fff, 0xe000, 0xffff} {
				written(t, m, addr, byte(x), want, was == 0 && x == 1)
			}
		}
	}
	for _, l := range []struct {
		bytes []byte
		want  int
	}{
		{[]byte{1}, 0}, // Last is ff at first
		{[]byte{0, 1}, 1},
		{[]byte{0, 0, 1}, 1},
		{[]byte{0, 1, 1}, 1},
		{[]byte{0, 2, 1}, 0},
		{[]byte{1, 0}, 0},
		{[]byte{0, 1, 0, 1}, 2},
		{[]byte{0, 3}, 0},
		{[]byte{0x10, 1, 0, 0x11}, 0},
	} {
		m, latches := made(3, 4, 0), 0
		for _, x := range l.bytes {
			next, latch := m.Write(0x6000, x)
			if latch {
				latches++
			}
			m = next
		}
		if latches != l.want {
			t.Errorf("%d latches after %x, want %d", latches, l.bytes, l.want)
		}
	}
}

// TestLatchAcrossOtherWrites: writes elsewhere leave Last as it is.
func TestLatchAcrossOtherWrites(t *testing.T) {
	m, _ := made(3, 4, 0x2000).Write(0x6000, 0)
	for _, addr := range []uint16{0, 0x1fff, 0x2000, 0x3fff, 0x4000, 0x5fff} {
		next, latch := m.Write(addr, 1)
		if latch || next.Last != 0 {
			t.Errorf("Write(%04x, 1): latch %t, Last %02x", addr, latch, next.Last)
		}
		m = next
	}
	if _, latch := m.Write(0x7000, 1); !latch {
		t.Error("the clock is not to be latched")
	}
}

func TestWriteOfKind5(t *testing.T) {
	for _, before := range []int{0, 1, 0xff, 0x100, 0x155, 0x1ff} {
		m := Map{Kind: 5, Banks: 512, Ram: 0x20000, On: true, Mode: true, Low: before, High: 2, Last: 0x33}
		for x := range 0x100 {
			low, bit8, high := m, m, m
			low.Low = before/0x100*0x100 + x
			bit8.Low = x%2*0x100 + before%0x100
			high.High = x % 0x10
			for _, base := range []uint16{0, 0x8000} {
				written(t, m, base+0x2000, byte(x), low, false)
				written(t, m, base+0x2fff, byte(x), low, false)
				written(t, m, base+0x3000, byte(x), bit8, false)
				written(t, m, base+0x3fff, byte(x), bit8, false)
				written(t, m, base+0x4000, byte(x), high, false)
				written(t, m, base+0x5fff, byte(x), high, false)
				written(t, m, base+0x6000, byte(x), m, false)
				written(t, m, base+0x7fff, byte(x), m, false)
			}
		}
		on := m
		on.On = false
		written(t, m, 0x1fff, 0, on, false)
	}
}

func TestVisibleBanks(t *testing.T) {
	for _, x := range []struct {
		m            Map
		lower, upper int
	}{
		{Map{Kind: 0, Banks: 2}, 0, 1},
		{Map{Kind: 0, Banks: 1}, 0, 0}, // 1 is taken modulo the number of banks, too
		{Map{Kind: 0, Banks: 8, Mode: true, Low: 5, High: 3}, 0, 1},
		{Map{Kind: 1, Banks: 128, Low: 5}, 0, 5},
		{Map{Kind: 1, Banks: 128, Low: 5, High: 3}, 0, 0x65},
		{Map{Kind: 1, Banks: 128, Low: 5, High: 3, Mode: true}, 0x60, 0x65},
		{Map{Kind: 1, Banks: 64, Low: 5, High: 3, Mode: true}, 0x20, 0x25},
		{Map{Kind: 1, Banks: 8, Low: 0x1f, High: 3, Mode: true}, 0, 7},
		{Map{Kind: 1, Banks: 72, Low: 0x1f, High: 3, Mode: true}, 0x18, 0x37},
		{Map{Kind: 1, Banks: 32, Low: 1, High: 2}, 0, 1},
		{Map{Kind: 2, Banks: 16, Low: 0xf, High: 3, Mode: true}, 0, 0xf},
		{Map{Kind: 2, Banks: 4, Low: 0xf}, 0, 3},
		{Map{Kind: 3, Banks: 128, Low: 0x7f, High: 3, Mode: true}, 0, 0x7f},
		{Map{Kind: 3, Banks: 16, Low: 0x20}, 0, 0},
		{Map{Kind: 5, Banks: 512, Low: 0x1ff, High: 3, Mode: true}, 0, 0x1ff},
		{Map{Kind: 5, Banks: 512, Low: 0}, 0, 0},
		{Map{Kind: 5, Banks: 3, Low: 0x1ff}, 0, 1},
	} {
		banked(t, x.m, x.lower, x.upper)
	}
}

// TestNoBanks: without banks, the visible bank is 0.
func TestNoBanks(t *testing.T) {
	for kind := -1; kind <= 7; kind++ {
		for _, banks := range []int{0, -1, -8, math.MinInt} {
			banked(t, Map{Kind: kind, Banks: banks, Mode: true, Low: 5, High: 3}, 0, 0)
		}
	}
}

func TestRom(t *testing.T) {
	m := Map{Kind: 1, Banks: 128, Mode: true, Low: 5, High: 3}
	for addr := range 0x10000 {
		want := 0x60*0x4000 + addr%0x4000
		if addr%0x8000 >= 0x4000 {
			want += 5 * 0x4000
		}
		if got := m.Rom(uint16(addr)); got != want {
			t.Fatalf("Rom(%04x) = %#x, want %#x", addr, got, want)
		}
	}
}

func TestRamIsWhereItIs(t *testing.T) {
	for _, kind := range []int{0, 1, 2, 3, 5} {
		m := Map{Kind: kind, Banks: 4, Ram: 0x8000, On: true, High: 2}
		for addr := range 0x10000 {
			want := 0x4000 + addr%0x2000
			switch kind {
			case 0, 1:
				want = addr % 0x2000
			case 2:
				want = addr % 0x200
			}
			if addr < 0xa000 || addr > 0xbfff {
				located(t, m, uint16(addr), 0, false)
			} else {
				located(t, m, uint16(addr), want, true)
			}
		}
	}
}

func TestRamOffsets(t *testing.T) {
	for _, x := range []struct {
		m    Map
		addr uint16
		want int
	}{
		{Map{Kind: 0, Ram: 0x2000}, 0xbfff, 0x1fff},
		{Map{Kind: 0, Ram: 0x8000, High: 3, Mode: true}, 0xbfff, 0x1fff},
		{Map{Kind: 0, Ram: 0x800}, 0xa801, 1},
		{Map{Kind: 1, Ram: 0x8000, High: 3}, 0xa123, 0x123},
		{Map{Kind: 1, Ram: 0x8000, High: 3, Mode: true}, 0xa123, 0x6123},
		{Map{Kind: 1, Ram: 0x2000, High: 3, Mode: true}, 0xa123, 0x123},
		{Map{Kind: 1, Ram: 0x800, High: 1, Mode: true}, 0xbfff, 0x7ff},
		{Map{Kind: 2, Ram: 0x200}, 0xa3ff, 0x1ff},
		{Map{Kind: 2, Ram: 0x2000, High: 1, Mode: true}, 0xbe34, 0x34},
		{Map{Kind: 2, Ram: 0x100}, 0xa1ff, 0xff},
		{Map{Kind: 3, Ram: 0x8000, High: 0}, 0xa000, 0},
		{Map{Kind: 3, Ram: 0x8000, High: 3}, 0xbfff, 0x7fff},
		{Map{Kind: 3, Ram: 0x2000, High: 3}, 0xbfff, 0x1fff},
		{Map{Kind: 5, Ram: 0x20000, High: 0xf}, 0xbfff, 0x1ffff},
		{Map{Kind: 5, Ram: 0x10000, High: 0xf}, 0xbfff, 0xffff},
		{Map{Kind: 5, Ram: 0x8000, High: 5}, 0xa001, 0x2001},
		{Map{Kind: 5, Ram: 0x3000, High: 2}, 0xa001, 0x1001},
		{Map{Kind: 5, Ram: 1, High: 2}, 0xa001, 0},
	} {
		located(t, x.m, x.addr, 0, false)
		x.m.On = true
		located(t, x.m, x.addr, x.want, true)
	}
}

// TestNoRam: a cartridge without RAM shows none.
func TestNoRam(t *testing.T) {
	for kind := -1; kind <= 7; kind++ {
		for _, ram := range []int{0, -1, -0x2000, math.MinInt} {
			located(t, Map{Kind: kind, Banks: 4, Ram: ram, On: true}, 0xa000, 0, false)
			located(t, Map{Kind: kind, Banks: 4, Ram: ram, On: true}, 0xbfff, 0, false)
		}
	}
}

// TestHighOfKind3: High selects a bank of the RAM, a register of the clock, or
// nothing.
func TestHighOfKind3(t *testing.T) {
	for high := range 0x10 {
		m, _ := made(3, 4, 0x8000).Write(0x4000, byte(high))
		located(t, m, 0xa005, 0, false)
		clocked(t, m, 0, false)
		m, _ = m.Write(0, 0xa)
		switch {
		case high < 4:
			located(t, m, 0xa005, 0x2000*high+5, true)
			clocked(t, m, 0, false)
		case high >= 8 && high <= 12:
			located(t, m, 0xa005, 0, false)
			clocked(t, m, high-8, true)
		default:
			located(t, m, 0xa005, 0, false)
			clocked(t, m, 0, false)
		}
	}
}

// TestClockOfOtherKinds: only kind 3 has a clock, which needs no RAM.
func TestClockOfOtherKinds(t *testing.T) {
	for kind := -1; kind <= 7; kind++ {
		for high := range 0x10 {
			found := kind == 3 && high >= 8 && high <= 12
			want := 0
			if found {
				want = high - 8
			}
			for _, ram := range []int{0, 0x8000} {
				clocked(t, Map{Kind: kind, Banks: 4, Ram: ram, On: true, High: high}, want, found)
				clocked(t, Map{Kind: kind, Banks: 4, Ram: ram, On: false, High: high}, 0, false)
			}
		}
	}
}

func TestUndefinedKinds(t *testing.T) {
	for _, kind := range []int{math.MinInt, -1, 4, 6, 7, 0x100, math.MaxInt} {
		m := Map{Kind: kind, Banks: 128, Ram: 0x8000, On: true, Mode: true, Low: 5, High: 3, Last: 0}
		banked(t, m, 0, 0)
		for addr := range 0x10000 {
			located(t, m, uint16(addr), 0, false)
			for _, x := range []byte{0, 1, 2, 0xa, 0xff} {
				written(t, m, uint16(addr), x, m, false)
			}
		}
		for high := range 0x10 {
			m.High = high
			clocked(t, m, 0, false)
		}
	}
}
