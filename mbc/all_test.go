package mbc

import (
	"math"
	"testing"
)

// The tests of this file hold the functions against a second reading of the
// document, which keeps the effects of writes as rules, and check P6.3 at maps
// that no cartridge has.

// rule is what a write does from an address on, up to another one.
type rule struct {
	from, to int
	effect   func(m *Map, x int) bool
}

// orOne returns n, or 1 if n is 0.
func orOne(n int) int {
	if n == 0 {
		return 1
	}
	return n
}

// setOn is the effect that all kinds but 0 have in common.
func setOn(m *Map, x int) bool { m.On = x%16 == 10; return false }

// lowOf returns the effect of setting Low to a number below a limit.
func lowOf(limit int) func(*Map, int) bool {
	return func(m *Map, x int) bool { m.Low = orOne(x % limit); return false }
}

// highOf returns the effect of setting High to a number below a limit.
func highOf(limit int) func(*Map, int) bool {
	return func(m *Map, x int) bool { m.High = x % limit; return false }
}

// rulesOf returns the rules of a kind.
func rulesOf(kind int) []rule {
	switch kind {
	case 1:
		return []rule{
			{0, 0x1fff, setOn}, {0x2000, 0x3fff, lowOf(32)}, {0x4000, 0x5fff, highOf(4)},
			{0x6000, 0x7fff, func(m *Map, x int) bool { m.Mode = x%2 != 0; return false }},
		}
	case 2:
		var rules []rule
		for at := 0; at < 0x4000; at += 0x200 {
			rules = append(rules, rule{at, at + 0xff, setOn}, rule{at + 0x100, at + 0x1ff, lowOf(16)})
		}
		return rules
	case 3:
		return []rule{
			{0, 0x1fff, setOn}, {0x2000, 0x3fff, lowOf(128)}, {0x4000, 0x5fff, highOf(16)},
			{0x6000, 0x7fff, func(m *Map, x int) bool {
				was := m.Last
				m.Last = byte(x)
				return was == 0 && x == 1
			}},
		}
	case 5:
		return []rule{
			{0, 0x1fff, setOn},
			{0x2000, 0x2fff, func(m *Map, x int) bool { m.Low += x - m.Low&0xff; return false }},
			{0x3000, 0x3fff, func(m *Map, x int) bool { m.Low += x%2*256 - m.Low&0x100; return false }},
			{0x4000, 0x5fff, highOf(16)},
		}
	}
	return nil
}

// wantWrite returns what Write should return.
func wantWrite(rules []rule, m Map, addr uint16, x byte) (Map, bool) {
	at := int(addr) % 0x8000
	for _, r := range rules {
		if at >= r.from && at <= r.to {
			latch := r.effect(&m, int(x))
			return m, latch
		}
	}
	return m, false
}

// wrapped returns n modulo size, for numbers of which a few sizes reach 0.
func wrapped(n, size int) int {
	for n < 0 {
		n += size
	}
	for n >= size {
		n -= size
	}
	return n
}

// wantBank returns what Bank should return.
func wantBank(m Map, addr uint16) int {
	upper := addr&0x4000 != 0
	bank := 0
	switch {
	case m.Kind == 0 && upper:
		bank = 1
	case m.Kind == 1 && (upper || m.Mode):
		bank = 32 * m.High
		if upper {
			bank += m.Low
		}
	case (m.Kind == 2 || m.Kind == 3 || m.Kind == 5) && upper:
		bank = m.Low
	}
	if m.Banks <= 0 {
		return 0
	}
	return wrapped(bank, m.Banks)
}

// wantAt returns what At should return.
func wantAt(m Map, addr uint16) (int, bool) {
	defined := m.Kind >= 0 && m.Kind <= 3 || m.Kind == 5
	if addr>>13 != 5 || !m.On || m.Ram <= 0 || !defined || m.Kind == 3 && m.High > 3 {
		return 0, false
	}
	offset := 8192*m.High + int(addr)%8192
	switch {
	case m.Kind == 2:
		offset = int(addr) % 512
	case m.Kind == 0 || m.Kind == 1 && !m.Mode:
		offset = int(addr) % 8192
	}
	return wrapped(offset, m.Ram), true
}

// numbers returns a function that returns other numbers in each call, the same
// in each run.
func numbers() func(below int) int {
	x := uint32(1)
	return func(below int) int {
		x = x*1664525 + 1013904223
		return int(x>>8) % below
	}
}

// pick returns one of the numbers of a list.
func pick(number func(int) int, list ...int) int { return list[number(len(list))] }

// varied returns a map, which most often is one that writes can lead to.
func varied(number func(int) int) Map {
	m := Map{
		Kind:  number(9) - 1,
		Banks: pick(number, 2, 4, 8, 16, 32, 64, 128, 256, 512),
		Ram:   pick(number, 0, 0x200, 0x800, 0x2000, 0x8000, 0x10000, 0x20000),
		On:    number(4) != 0,
		Mode:  number(2) == 0,
		Low:   number(0x200),
		High:  number(16),
		Last:  byte(number(3)),
	}
	switch number(8) {
	case 0:
		m.Banks = number(600) - 20
	case 1:
		m.Ram = number(0x22000) - 0x1000
	case 2:
		m.Low = number(0x2000) - 0x1000
	case 3:
		m.High = number(40) - 20
	}
	return m
}

// seen checks all that is visible in m at addr.
func seen(t *testing.T, m Map, addr uint16) {
	t.Helper()
	bank := wantBank(m, addr)
	if got := m.Bank(addr); got != bank {
		t.Errorf("Bank(%04x) of %+v = %#x, want %#x", addr, m, got, bank)
	}
	if got, want := m.Rom(addr), 16384*bank+int(addr)%16384; got != want {
		t.Errorf("Rom(%04x) of %+v = %#x, want %#x", addr, m, got, want)
	}
	offset, found := wantAt(m, addr)
	located(t, m, addr, offset, found)
}

func TestManyMaps(t *testing.T) {
	number := numbers()
	for range 200000 {
		m := varied(number)
		addr, x := uint16(number(0x10000)), byte(number(256))
		seen(t, m, addr)
		seen(t, m, 0xa000+addr%0x2000)
		want, latch := wantWrite(rulesOf(m.Kind), m, addr, x)
		written(t, m, addr, x, want, latch)
		if t.Failed() {
			return
		}
	}
}

// TestEveryAddress: each address belongs to one rule of its kind.
func TestEveryAddress(t *testing.T) {
	for kind := -1; kind <= 7; kind++ {
		rules := rulesOf(kind)
		m := Map{Kind: kind, Banks: 64, Ram: 0x8000, On: true, Mode: true, Low: 0x1d5, High: 2, Last: 0}
		for addr := range 0x10000 {
			seen(t, m, uint16(addr))
			for _, x := range []byte{0, 1, 0x2a, 0xfe, 0xff} {
				want, latch := wantWrite(rules, m, uint16(addr), x)
				written(t, m, uint16(addr), x, want, latch)
			}
			if t.Failed() {
				return
			}
		}
	}
}

// TestRuns: maps that many writes lead to.
func TestRuns(t *testing.T) {
	number := numbers()
	latches := 0
	for kind := -1; kind <= 7; kind++ {
		rules := rulesOf(kind)
		for range 30 {
			m := made(kind, 2<<number(9), pick(number, 0, 0x200, 0x800, 0x2000, 0x8000, 0x10000, 0x20000))
			for range 300 {
				addr, x := uint16(number(0x10000)), byte(number(256))
				if number(3) == 0 {
					x = byte(pick(number, 0, 1, 0xa))
				}
				want, latch := wantWrite(rules, m, addr, x)
				written(t, m, addr, x, want, latch)
				seen(t, want, uint16(number(0x10000)))
				seen(t, want, uint16(0xa000+number(0x2000)))
				m = want
				if latch {
					latches++
				}
			}
		}
	}
	if latches < 20 {
		t.Errorf("the clock was to be latched only %d times", latches)
	}
}

// TestBounds: P6.3 holds for all fields that a caller may set, and no call panics.
func TestBounds(t *testing.T) {
	ends := []int{math.MinInt, math.MinInt + 1, -0x2001, -33, -1, 0, 1, 7, 0x1ff, 0x2001, math.MaxInt - 1, math.MaxInt}
	sizes := []int{math.MinInt, -3, -1, 0, 1, 2, 3, 64, 0x200, 0x2000, 0x7fff, math.MaxInt / 0x4000}
	for kind := -1; kind <= 7; kind++ {
		for _, low := range ends {
			for _, high := range ends {
				for _, size := range sizes {
					for _, mode := range []bool{false, true} {
						m := Map{Kind: kind, Banks: size, Ram: size, On: true, Mode: mode, Low: low, High: high}
						bounded(t, m)
						m, _ = m.Write(0x2000, 0x55)
						bounded(t, m)
					}
				}
			}
		}
	}
}

// bounded checks that what m shows lies in the ROM, in the RAM and in the clock.
func bounded(t *testing.T, m Map) {
	t.Helper()
	for _, addr := range []uint16{0, 0x3fff, 0x4000, 0x7fff, 0xa000, 0xbfff, 0xffff} {
		bank, rom := m.Bank(addr), m.Rom(addr)
		if m.Banks > 0 && (bank < 0 || bank >= m.Banks || rom < 0 || rom >= 0x4000*m.Banks) {
			t.Errorf("Bank(%04x) and Rom of %+v = %d, %d", addr, m, bank, rom)
		}
		if at, found := m.At(addr); found && (at < 0 || at >= m.Ram) || !found && at != 0 {
			t.Errorf("At(%04x) of %+v = %d, %t", addr, m, at, found)
		}
	}
	if n, found := m.Clock(); n < 0 || n > 4 || !found && n != 0 {
		t.Errorf("Clock of %+v = %d, %t", m, n, found)
	}
}
