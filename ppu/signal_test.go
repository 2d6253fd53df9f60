package ppu

import (
	"maps"
	"testing"
)

// TestSources: in which cycles of a picture each kind of interrupt is requested.
func TestSources(t *testing.T) {
	for _, x := range []struct {
		selected byte
		compared int
		want     func(line, dot int) bool
	}{
		{0, 0, func(line, dot int) bool { return false }},
		{0x87, 0, func(line, dot int) bool { return false }},
		{0x08, 0, func(line, dot int) bool { return line < 144 && dot == 63 }},
		{0x10, 0, func(line, dot int) bool { return line == 144 && dot == 0 }},
		{0x20, 0, func(line, dot int) bool { return line < 144 && dot == 0 }},
		{0x40, 0, func(line, dot int) bool { return line == 0 && dot == 0 }},
		{0x40, 1, func(line, dot int) bool { return line == 1 && dot == 0 }},
		{0x40, 143, func(line, dot int) bool { return line == 143 && dot == 0 }},
		{0x40, 144, func(line, dot int) bool { return line == 144 && dot == 0 }},
		{0x40, 153, func(line, dot int) bool { return line == 153 && dot == 0 }},
		{0x40, 154, func(line, dot int) bool { return false }},
		{0x40, 255, func(line, dot int) bool { return false }},
		// The signal stays active from mode 0 to mode 2 or 1, and from line 7
		// to mode 2 of line 8.
		{0x28, 0, func(line, dot int) bool { return line < 144 && dot == 63 || line == 0 && dot == 0 }},
		{0x18, 0, func(line, dot int) bool { return line < 144 && dot == 63 }},
		{0x30, 0, func(line, dot int) bool { return line <= 144 && dot == 0 && line != 0 }},
		{0x38, 0, func(line, dot int) bool { return line < 144 && dot == 63 }},
		{0x50, 144, func(line, dot int) bool { return line == 144 && dot == 0 }},
		{0x48, 7, func(line, dot int) bool { return line < 144 && dot == 63 && line != 7 }},
		{0x48, 145, func(line, dot int) bool { return line < 144 && dot == 63 || line == 145 && dot == 0 }},
		{0x60, 7, func(line, dot int) bool { return line < 144 && dot == 0 && line != 8 }},
		{0x68, 7, func(line, dot int) bool { return line < 144 && dot == 63 && line != 7 || line == 0 && dot == 0 }},
		{0x78, 7, func(line, dot int) bool { return line < 144 && dot == 63 && line != 7 }},
		{0xff, 7, func(line, dot int) bool { return line < 144 && dot == 63 && line != 7 }},
	} {
		u := New()
		u.Write(0xff41, x.selected)
		u.Write(0xff45, byte(x.compared))
		u.Write(0xff40, 0x80)
		ticks(u, 154*114-1)
		isAt(t, u, 153, 113, 1)
		for at := range 154 * 114 {
			var want byte
			if x.want(at/114, at%114) {
				want += Stat
			}
			if at == 144*114 {
				want += Blank
			}
			if got := u.Tick(); got != want {
				t.Errorf("selected %02x, compared with %d: line %d, cycle %d: %d, want %d", x.selected, x.compared, u.Line(), u.Dot(), got, want)
			}
		}
	}
}

// TestSignalByTick: what becomes of each signal in a cycle.
func TestSignalByTick(t *testing.T) {
	for _, x := range []struct {
		line, dot, selected, compared, signal byte
		active                                byte
		want                                  byte
	}{
		{5, 70, 0x08, 0, 0, 1, Stat}, {5, 70, 0x08, 0, 1, 1, 0}, {5, 70, 0x70, 0, 1, 0, 0},
		{5, 50, 0x38, 0, 1, 0, 0}, {5, 50, 0x38, 0, 0, 0, 0}, {5, 50, 0x40, 5, 0, 1, Stat},
		{5, 50, 0x40, 6, 1, 0, 0}, {5, 50, 0x40, 6, 0, 0, 0}, {5, 50, 0x38, 5, 0, 0, 0},
		{5, 113, 0x40, 6, 0, 1, Stat}, {5, 113, 0x40, 5, 1, 0, 0},
		{5, 5, 0x20, 0, 0, 1, Stat}, {5, 5, 0x20, 0, 1, 1, 0}, {5, 19, 0x20, 0, 1, 0, 0},
		{150, 5, 0x10, 0, 0, 1, Stat}, {150, 5, 0x10, 0, 1, 1, 0}, {150, 5, 0x28, 0, 1, 0, 0},
		{143, 113, 0x10, 0, 0, 1, Stat + Blank}, {143, 113, 0x10, 0, 1, 1, Blank}, {143, 113, 0x28, 0, 1, 0, Blank},
		{153, 113, 0x10, 0, 1, 0, 0}, {153, 113, 0x20, 0, 0, 1, Stat}, {153, 113, 0x40, 0, 0, 1, Stat},
		{62, 62, 0x08, 0, 0, 1, Stat}, {62, 62, 0x40, 62, 1, 1, 0},
	} {
		u := unitOf(t, set{
			controlAtByte: 0x80, lineAtByte: x.line, dotAtByte: x.dot, signalAtByte: x.signal,
			controlAtByte + 1: x.selected, controlAtByte + 5: x.compared,
		})
		isTick(t, u, x.want)
		if got := u.Encode()[signalAtByte]; got != x.active {
			t.Errorf("%+v: signal %d", x, got)
		}
	}
}

// TestSignalByWrite: a write to any of the eleven registers determines the
// signal again, one to the memories or to ff46 does not.
func TestSignalByWrite(t *testing.T) {
	active := set{controlAtByte: 0x80, controlAtByte + 1: 0x48, lineAtByte: 9, controlAtByte + 5: 9, dotAtByte: 70}
	for n, addr := range registerAddresses() {
		u := unitOf(t, active)
		x := active[controlAtByte+n]
		isWrite(t, u, addr, x, Stat)
		isWrite(t, u, addr, x, 0)
		want := maps.Clone(active)
		want[signalAtByte] = 1
		hasState(t, u, want)
	}
	for n, addr := range registerAddresses() {
		inactive := set{controlAtByte: 0x80, controlAtByte + 1: 0x30, lineAtByte: 9, controlAtByte + 5: 9, dotAtByte: 70, signalAtByte: 1}
		u := unitOf(t, inactive)
		isWrite(t, u, addr, inactive[controlAtByte+n], 0)
		inactive[signalAtByte] = 0
		hasState(t, u, inactive)
	}
	u := unitOf(t, active)
	for _, addr := range []uint16{0x8000, 0x9fff, 0xfe00, 0xfe9f, 0xff46, 0xff4c, 0xff3f, 0} {
		isWrite(t, u, addr, 0, 0)
	}
	for addr := range 0x10000 {
		u.Peek(uint16(addr))
		u.Read(uint16(addr))
	}
	u.Sprite(0, 0)
	hasState(t, u, active)
	isTick(t, u, Stat)
}

// TestBecomesActive: writes that change what the signal is.
func TestBecomesActive(t *testing.T) {
	u := unitOf(t, set{controlAtByte: 0x80, lineAtByte: 9, dotAtByte: 30})
	isWrite(t, u, 0xff41, 0x38, 0)
	isWrite(t, u, 0xff41, 0x40, 0)
	isWrite(t, u, 0xff45, 10, 0)
	isWrite(t, u, 0xff45, 9, Stat)
	isWrite(t, u, 0xff45, 9, 0)
	isWrite(t, u, 0xff45, 8, 0)
	isWrite(t, u, 0xff45, 9, Stat)
	isWrite(t, u, 0xff41, 0x00, 0)
	isWrite(t, u, 0xff41, 0x78, Stat)
	isWrite(t, u, 0xff41, 0x40, 0)
	isWrite(t, u, 0xff44, 0, 0)
}

// TestSwitchOn: being switched on makes the signal active, and being switched
// off makes it inactive.
func TestSwitchOn(t *testing.T) {
	for _, x := range []struct{ selected, compared, want byte }{
		{0x20, 1, Stat}, {0x40, 0, Stat}, {0x40, 1, 0}, {0x08, 1, 0}, {0x10, 1, 0}, {0, 0, 0}, {0x18, 0, 0}, {0x58, 0, Stat},
	} {
		u := New()
		isWrite(t, u, 0xff41, x.selected, 0)
		isWrite(t, u, 0xff45, x.compared, 0)
		isWrite(t, u, 0xff40, 0x7f, 0)
		for range 2 {
			isWrite(t, u, 0xff40, 0x80, x.want)
			isWrite(t, u, 0xff40, 0x81, 0)
			isWrite(t, u, 0xff40, 0x01, 0)
		}
	}
}

// TestModeSources: which bit of ff41 each mode needs, by a write.
func TestModeSources(t *testing.T) {
	for n, some := range modes() {
		some[controlAtByte+5] = 200
		for selected := range 256 {
			active := n < 3 && selected>>(3+n)&1 != 0
			var want byte
			if active {
				want = Stat
			}
			u := unitOf(t, some)
			isWrite(t, u, 0xff41, byte(selected), want)
			isWrite(t, u, 0xff42, 7, 0)
		}
	}
}
