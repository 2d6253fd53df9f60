package machine

import (
	"bytes"
	"slices"
	"testing"

	"retrograde/clock"
	"retrograde/sound"
	"retrograde/timer"
)

// isRead checks what the processor reads and fetches at an address.
func isRead(t *testing.T, m *Machine, addr uint16, want byte) {
	t.Helper()
	if got := cpuBus(m).Read(addr); got != want {
		t.Errorf("Read(%04x) = %02x, want %02x", addr, got, want)
	}
	if got := cpuBus(m).Fetch(addr); got != want {
		t.Errorf("Fetch(%04x) = %02x, want %02x", addr, got, want)
	}
}

// isByte checks what is at an address, which the processor reads, too.
func isByte(t *testing.T, m *Machine, addr uint16, want byte) {
	t.Helper()
	isPeek(t, m, addr, want)
	isRead(t, m, addr, want)
}

// isChanged checks which bytes of the encoded state a write by the processor
// changes, apart from what its cycle changes.
func isChanged(t *testing.T, m *Machine, addr uint16, x byte, want bool) {
	t.Helper()
	before := m.Encode()
	idle(m, 1)
	idled := m.Encode()
	if m.Decode(before) != 0 {
		t.Fatal("Decode")
	}
	cpuBus(m).Write(addr, x)
	if got := !bytes.Equal(m.Encode(), idled); got != want {
		t.Errorf("Write(%04x, %02x) changes something: %t", addr, x, got)
	}
}

// TestRom: the bytes of the banks that the map selects, with each mapper.
func TestRom(t *testing.T) {
	for _, x := range []struct {
		mapper       byte
		writes       [][2]int
		lower, upper int
	}{
		{plain, nil, 0, 1}, {plain, [][2]int{{0x2000, 5}, {0x4000, 1}, {0x6000, 1}}, 0, 1},
		{banked, nil, 0, 1}, {banked, [][2]int{{0x2000, 0}}, 0, 1}, {banked, [][2]int{{0x3fff, 0x1f}}, 0, 31},
		{banked, [][2]int{{0x2000, 7}, {0x4000, 1}}, 0, 39}, {banked, [][2]int{{0x2000, 7}, {0x4000, 1}, {0x7fff, 1}}, 32, 39},
		{contained, [][2]int{{0x2100, 0x0d}}, 0, 13}, {contained, [][2]int{{0x2000, 0x0d}}, 0, 1},
		{clocked, [][2]int{{0x2000, 0x3f}}, 0, 63}, {unclocked, [][2]int{{0x2000, 0x41}}, 0, 1},
		{wide, [][2]int{{0x2000, 0}}, 0, 0}, {wide, [][2]int{{0x2000, 0x2a}, {0x3000, 1}}, 0, 42},
	} {
		rom := cart(x.mapper, 5, 3)
		m := build(t, rom, nil)
		for _, w := range x.writes {
			cpuBus(m).Write(uint16(w[0]), byte(w[1]))
		}
		for addr := range 0x8000 {
			bank := x.lower
			if addr >= 0x4000 {
				bank = x.upper
			}
			want := rom[bank*0x4000+addr%0x4000]
			isPeek(t, m, uint16(addr), want)
			if addr%37 == 0 || addr%0x4000 < 2 || addr%0x4000 > 0x3ffd {
				isRead(t, m, uint16(addr), want)
			}
			if got := m.Bank(uint16(addr)); got != bank {
				t.Errorf("mapper %02x: Bank(%04x) = %d, want %d", x.mapper, addr, got, bank)
			}
		}
	}
}

// TestBank: there are no banks from 8000 on.
func TestBank(t *testing.T) {
	for _, mapper := range mappers() {
		m := build(t, cart(mapper, 4, 3), nil)
		cpuBus(m).Write(0x2100, 7)
		for addr := range 0x10000 {
			want := 0
			if addr >= 0x4000 && addr < 0x8000 {
				want = 7
				if mapper == plain {
					want = 1
				}
			}
			if got := m.Bank(uint16(addr)); got != want {
				t.Errorf("mapper %02x: Bank(%04x) = %d, want %d", mapper, addr, got, want)
			}
		}
	}
}

// TestCartRam: the RAM of each mapper can be enabled, written and read.
func TestCartRam(t *testing.T) {
	for _, mapper := range []byte{banked, clocked, unclocked, wide} {
		m := with(t, mapper)
		b := cpuBus(m)
		isByte(t, m, 0xa000, 0xff)
		isChanged(t, m, 0xa000, 0x12, false)
		b.Write(0x0000, 0x0a)
		if mapper == banked {
			b.Write(0x6000, 1)
		}
		for bank := range 4 {
			b.Write(0x4000, byte(bank))
			b.Write(0xa000, byte(0x10+bank))
			b.Write(0xbfff, byte(0x20+bank))
			b.Write(0xb234, byte(0x30+bank))
		}
		for bank := range 4 {
			b.Write(0x4000, byte(bank))
			isByte(t, m, 0xa000, byte(0x10+bank))
			isByte(t, m, 0xbfff, byte(0x20+bank))
			isByte(t, m, 0xb234, byte(0x30+bank))
			isByte(t, m, 0xa001, 0)
		}
		b.Write(0x0000, 0)
		isByte(t, m, 0xbfff, 0xff)
		isChanged(t, m, 0xbfff, 0x12, false)
		b.Write(0x1fff, 0xfa)
		isByte(t, m, 0xbfff, 0x23)
	}
}

// TestPlainRam: the RAM of a cartridge without a mapper, of each size.
func TestPlainRam(t *testing.T) {
	for size, bytes := range []int{0, 0x800, 0x2000, 0x8000, 0x20000, 0x10000} {
		m := build(t, cart(plain, 0, byte(size)), nil)
		b := cpuBus(m)
		b.Write(0xa000, 0x11)
		b.Write(0xa7ff, 0x22)
		b.Write(0xb801, 0x33)
		switch {
		case bytes == 0:
			isByte(t, m, 0xa000, 0xff)
			isByte(t, m, 0xa7ff, 0xff)
			isChanged(t, m, 0xa000, 0x12, false)
		case bytes == 0x800:
			isByte(t, m, 0xb800, 0x11)
			isByte(t, m, 0xafff, 0x22)
			isByte(t, m, 0xa001, 0x33)
		default:
			isByte(t, m, 0xa000, 0x11)
			isByte(t, m, 0xa7ff, 0x22)
			isByte(t, m, 0xb801, 0x33)
			isByte(t, m, 0xb800, 0)
			isByte(t, m, 0xa001, 0)
		}
		if got := len(m.ram); got != bytes {
			t.Errorf("%d bytes of RAM, want %d", got, bytes)
		}
	}
}

// TestContainedRam: the RAM of kind 2 is read with its higher four bits set.
func TestContainedRam(t *testing.T) {
	m := with(t, contained)
	b := cpuBus(m)
	b.Write(0x0000, 0x0a)
	for x := range 256 {
		b.Write(0xa123, byte(x))
		for addr := 0xa123; addr < 0xc000; addr += 0x200 {
			isByte(t, m, uint16(addr), byte(0xf0|x))
		}
	}
	isByte(t, m, 0xa122, 0xf0)
	b.Write(0xbfff, 0x05)
	isByte(t, m, 0xa1ff, 0xf5)
	b.Write(0x0000, 0)
	isByte(t, m, 0xa1ff, 0xff)
	// Other kinds show all bits.
	m = with(t, wide)
	cpuBus(m).Write(0, 0x0a)
	cpuBus(m).Write(0xa000, 0x05)
	isByte(t, m, 0xa000, 0x05)
}

// TestClockRegisters: the registers of the clock that the map selects are read
// as they were latched, and written.
func TestClockRegisters(t *testing.T) {
	for _, mapper := range []byte{clocked, unclocked} {
		m := with(t, mapper)
		b := cpuBus(m)
		b.Write(0x0000, 0x0a)
		latch := func() {
			b.Write(0x6000, 0)
			b.Write(0x6000, 1)
		}
		for part, x := range []byte{0x2b, 0x11, 0x07, 0xc5, 0x41} {
			b.Write(0x4000, byte(8+part))
			isByte(t, m, 0xa000, 0)
			b.Write(0xa000+uint16(part)*0x7f, x)
			isByte(t, m, 0xb123, 0)
		}
		want := clock.Clock{S: 0x2b, M: 0x11, H: 7, Day: 0x1c5, Halt: true}
		got := m.clock
		got.Sub = 0
		if got != want {
			t.Errorf("clock %+v, want %+v", m.clock, want)
		}
		latch()
		for part, x := range []byte{0x2b, 0x11, 0x07, 0xc5, 0x41} {
			b.Write(0x4000, byte(8+part))
			for _, addr := range []uint16{0xa000, 0xa001, 0xb123, 0xbfff} {
				isByte(t, m, addr, x)
			}
		}
		if slices.Max(m.ram) != 0 {
			t.Error("the RAM was written")
		}
		// No register and no bank is selected.
		for _, high := range []byte{4, 7, 0x0d, 0x0f} {
			b.Write(0x4000, high)
			isByte(t, m, 0xa000, 0xff)
			isChanged(t, m, 0xa000, 0x12, false)
		}
		b.Write(0x4000, 8)
		b.Write(0x0000, 0)
		isByte(t, m, 0xa000, 0xff)
		isChanged(t, m, 0xa000, 0x12, false)
		b.Write(0x0000, 0x0a)
		b.Write(0x4000, 3)
		isByte(t, m, 0xa000, 0)
		isChanged(t, m, 0xa000, 0x12, true)
	}
}

// TestLatch: only a write of 1 after a 0 latches the clock, as it is after the
// cycle of that write.
func TestLatch(t *testing.T) {
	m := with(t, clocked)
	b := cpuBus(m)
	m.clock.M, m.clock.Sub, m.clock.S = 5, clock.Second-2, 58
	for _, x := range []byte{1, 1, 0, 2, 1, 0xff, 1} {
		b.Write(0x6000, x)
		if m.clock.Held != [5]byte{} {
			t.Errorf("latched by %02x", x)
		}
	}
	b.Write(0x7fff, 0)
	m.clock.S, m.clock.Sub = 58, clock.Second-1
	b.Write(0x7fff, 1)
	if m.clock.Held != [5]byte{59, 5} {
		t.Errorf("latched %v", m.clock.Held)
	}
	b.Write(0x2000, 1)
	m.clock.M = 6
	b.Write(0x6000, 1)
	if m.clock.Held != [5]byte{59, 5} {
		t.Errorf("latched %v", m.clock.Held)
	}
	// A map of another kind latches nothing.
	m = with(t, wide)
	m.clock.M = 5
	cpuBus(m).Write(0x6000, 0)
	cpuBus(m).Write(0x6000, 1)
	if m.clock.Held != [5]byte{} {
		t.Errorf("latched %v", m.clock.Held)
	}
}

// TestWorkRam: each byte is seen twice, and can be written at both addresses.
func TestWorkRam(t *testing.T) {
	m := with(t, plain)
	b := cpuBus(m)
	for n := range uint16(0x2000) {
		b.Write(0xc000+n, byte(n*7+n>>8))
	}
	for n := range uint16(0x2000) {
		isByte(t, m, 0xc000+n, byte(n*7+n>>8))
		if n < 0x1e00 {
			isByte(t, m, 0xe000+n, byte(n*7+n>>8))
		}
	}
	for n := range uint16(0x1e00) {
		b.Write(0xe000+n, byte(n*5+n>>8))
	}
	for n := range uint16(0x1e00) {
		isByte(t, m, 0xe000+n, byte(n*5+n>>8))
		isByte(t, m, 0xc000+n, byte(n*5+n>>8))
	}
	isByte(t, m, 0xde00, byte(0x1e00*7%256+0x1e))
}

// TestHighRam: the bytes from ff80 to fffe.
func TestHighRam(t *testing.T) {
	m := with(t, plain)
	b := cpuBus(m)
	for addr := 0xff80; addr <= 0xffff; addr++ {
		b.Write(uint16(addr), byte(addr*3))
	}
	for addr := 0xff80; addr <= 0xffff; addr++ {
		isByte(t, m, uint16(addr), byte(addr*3))
	}
	if m.enabled != 0xfd || m.high[0x7e] != 0xfa || m.high[0] != 0x80 {
		t.Errorf("enabled %02x, %v", m.enabled, m.high)
	}
}

// TestNothingThere: addresses that nothing has.
func TestNothingThere(t *testing.T) {
	m := with(t, plain)
	cpuBus(m).Write(0xff26, 0x80)
	var unused []uint16
	for addr := 0xfea0; addr < 0xff80; addr++ {
		switch {
		case addr < 0xff00, addr == 0xff03, addr >= 0xff08 && addr <= 0xff0e, addr >= 0xff4c:
			unused = append(unused, uint16(addr))
		}
	}
	if len(unused) != 96+1+7+52 {
		t.Errorf("%d addresses", len(unused))
	}
	for _, addr := range unused {
		isByte(t, m, addr, 0xff)
		isChanged(t, m, addr, 0x00, false)
		isChanged(t, m, addr, 0x5a, false)
		isByte(t, m, addr, 0xff)
	}
}

// TestPadRegister: the pad at ff00.
func TestPadRegister(t *testing.T) {
	m := with(t, plain)
	m.pad.Down = 0xa5
	for x := range 256 {
		cpuBus(m).Write(0xff00, byte(x))
		want, _ := m.pad.Write(byte(x))
		if m.pad != want || m.pad.Down != 0xa5 || m.pad.Select != byte(x&0x30) {
			t.Errorf("pad %+v after %02x", m.pad, x)
		}
		isByte(t, m, 0xff00, want.Read())
	}
}

// TestPortRegisters: bytes 0 and 1 of the port at ff01 and ff02.
func TestPortRegisters(t *testing.T) {
	m := with(t, plain)
	b := cpuBus(m)
	b.Write(0xff01, 0x41)
	isByte(t, m, 0xff01, 0x41)
	isByte(t, m, 0xff02, 0x7e)
	b.Write(0xff02, 0x81)
	isByte(t, m, 0xff02, 0xff)
	if m.port.Last != 0x41 || m.port.Sent != 1 || m.port.Bits != 8 || m.port.Count != 2 {
		t.Errorf("port %+v", m.port)
	}
	b.Write(0xff02, 0x01)
	isByte(t, m, 0xff02, 0x7f)
}

// TestTimerRegisters: bytes 0 to 3 of the timer at ff04 to ff07.
func TestTimerRegisters(t *testing.T) {
	m := with(t, plain)
	b := cpuBus(m)
	m.timer.Count = 0x3400
	isByte(t, m, 0xff04, 0x34)
	b.Write(0xff04, 0x99)
	b.Write(0xff05, 0x12)
	b.Write(0xff06, 0x23)
	b.Write(0xff07, 0xfe)
	if want := (timer.Timer{Count: 12, Tima: 0x12, Tma: 0x23, Tac: 6}); m.timer != want {
		t.Errorf("timer %+v, want %+v", m.timer, want)
	}
	isByte(t, m, 0xff04, 0)
	isByte(t, m, 0xff05, 0x12)
	isByte(t, m, 0xff06, 0x23)
	isByte(t, m, 0xff07, 0xfe)
}

// TestInterruptRegisters: the flags at ff0f have five bits, the register at ffff
// has eight.
func TestInterruptRegisters(t *testing.T) {
	m := with(t, plain)
	b := cpuBus(m)
	for x := range 256 {
		b.Write(0xff0f, byte(x))
		b.Write(0xffff, byte(^x))
		if m.flags != byte(x&0x1f) || m.enabled != byte(^x) {
			t.Errorf("flags %02x, enabled %02x after %02x", m.flags, m.enabled, x)
		}
		isByte(t, m, 0xff0f, byte(x|0xe0))
		isByte(t, m, 0xffff, byte(^x))
	}
}

// TestSoundRegisters: bytes 0 to 2f of the sound board at ff10 to ff3f.
func TestSoundRegisters(t *testing.T) {
	m := with(t, plain)
	b := cpuBus(m)
	b.Write(0xff26, 0x80)
	want := sound.Board{}.Write(0x16, 0x80)
	for n := range 0x30 {
		if n == 0x16 {
			continue
		}
		x := byte(n*9 + 0x81)
		b.Write(0xff10+uint16(n), x)
		want = want.Tick().Write(n, x)
	}
	if m.board != want {
		t.Errorf("board %+v, want %+v", m.board, want)
	}
	for n := range 0x30 {
		isByte(t, m, 0xff10+uint16(n), want.Read(n))
	}
	b.Write(0xff3f, 0x5a)
	isByte(t, m, 0xff3f, 0x5a)
	isByte(t, m, 0xff40, 0)
}

// TestUnitRegisters: the picture unit at its addresses, without ff46.
func TestUnitRegisters(t *testing.T) {
	m := with(t, plain)
	b := cpuBus(m)
	for addr := 0xff41; addr <= 0xff4b; addr++ {
		if addr != 0xff46 {
			b.Write(uint16(addr), byte(addr*5))
		}
	}
	for addr := 0xff41; addr <= 0xff4b; addr++ {
		want := byte(addr * 5)
		switch addr {
		case 0xff41:
			want = want&0x78 | 0x80
		case 0xff44, 0xff46:
			want = 0
		}
		isByte(t, m, uint16(addr), want)
		if addr != 0xff46 && m.Video().Peek(uint16(addr)) != want {
			t.Errorf("the unit has %02x at %04x", m.Video().Peek(uint16(addr)), addr)
		}
	}
	b.Write(0xff40, 0x75)
	isByte(t, m, 0xff40, 0x75)
}

// TestUnitMemory: the memories of the unit, while it is off.
func TestUnitMemory(t *testing.T) {
	m := with(t, plain)
	b := cpuBus(m)
	var addresses []uint16
	for addr := range 0x2000 {
		addresses = append(addresses, 0x8000+uint16(addr))
	}
	for addr := range 0xa0 {
		addresses = append(addresses, 0xfe00+uint16(addr))
	}
	for _, addr := range addresses {
		b.Write(addr, byte(addr*7+addr>>8))
	}
	for _, addr := range addresses {
		isByte(t, m, addr, byte(addr*7+addr>>8))
		if m.Video().Peek(addr) != byte(addr*7+addr>>8) {
			t.Errorf("the unit has %02x at %04x", m.Video().Peek(addr), addr)
		}
	}
}

// TestUnitModes: the processor neither reads nor writes what the mode hides;
// Peek shows it.
func TestUnitModes(t *testing.T) {
	for _, x := range []struct {
		cycles     int
		video, oam bool
	}{{1, true, false}, {17, true, false}, {20, false, false}, {60, false, false}, {63, true, true}, {110, true, true}} {
		for _, addr := range []uint16{0x8000, 0x9fff, 0xfe00, 0xfe9f} {
			m := with(t, plain)
			b := cpuBus(m)
			b.Write(addr, 0x5a)
			b.Write(0xff40, 0x80)
			idle(m, x.cycles-1)
			want, visible := byte(0xff), x.video
			if addr >= 0xfe00 {
				visible = x.oam
			}
			if visible {
				want = 0x5a
			}
			isRead(t, m, addr, want)
			isPeek(t, m, addr, 0x5a)
			b.Write(addr, 0x33)
			if got := m.Peek(addr); (got == 0x33) != visible {
				t.Errorf("after %d cycles, %02x at %04x", x.cycles, got, addr)
			}
		}
	}
}

// TestPeekChangesNothing: neither Peek nor Bank changes the machine.
func TestPeekChangesNothing(t *testing.T) {
	for _, mapper := range mappers() {
		m := with(t, mapper)
		idle(m, 300)
		before := m.Encode()
		for addr := range 0x10000 {
			m.Peek(uint16(addr))
			m.Bank(uint16(addr))
		}
		if !bytes.Equal(m.Encode(), before) {
			t.Errorf("mapper %02x: another state", mapper)
		}
	}
}
