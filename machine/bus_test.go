package machine

import (
	"testing"

	"retrograde/api"
	"retrograde/clock"
	"retrograde/cpu"
	"retrograde/dma"
	"retrograde/ppu"
	"retrograde/serial"
	"retrograde/timer"
)

// cpuBus is a machine as the processor accesses it.
func cpuBus(m *Machine) cpu.Bus { return &bus{Machine: m} }

// idle lets a machine advance by some cycles.
func idle(m *Machine, cycles int) {
	b := cpuBus(m)
	for range cycles {
		b.Idle()
	}
}

// isFlags checks the interrupt flags.
func isFlags(t *testing.T, m *Machine, want byte) {
	t.Helper()
	if m.flags != want {
		t.Errorf("flags %02x after %d cycles, want %02x", m.flags, m.Cycles(), want)
	}
}

// TestTimerFlag: the interrupt of the timer sets bit 2, in its cycle.
func TestTimerFlag(t *testing.T) {
	m := with(t, plain)
	m.timer = timer.Timer{Count: 4, Tima: 0xff, Tma: 0x77, Tac: 5}
	for _, want := range []byte{0, 0, 0, 4} {
		idle(m, 1)
		isFlags(t, m, want)
	}
	isPeek(t, m, 0xff05, 0x77)
	m.flags = 0x1b
	m.timer.Over = true
	idle(m, 1)
	isFlags(t, m, 0x1f)
	idle(m, 100)
	isFlags(t, m, 0x1f)
}

// TestPortFlag: the interrupt of the port sets bit 3, in its cycle.
func TestPortFlag(t *testing.T) {
	m := with(t, plain)
	cpuBus(m).Write(0xff01, 0x55)
	cpuBus(m).Write(0xff02, 0x81)
	idle(m, 1023)
	isFlags(t, m, 0)
	isPeek(t, m, 0xff02, 0xff)
	idle(m, 1)
	isFlags(t, m, 8)
	isPeek(t, m, 0xff02, 0x7f)
	isPeek(t, m, 0xff01, 0xff)
	m.flags = 0x17
	m.port = serial.Port{Bits: 1, Count: 127}
	idle(m, 1)
	isFlags(t, m, 0x1f)
}

// TestUnitFlags: Blank sets bit 0, Stat bit 1, in their cycles.
func TestUnitFlags(t *testing.T) {
	for _, x := range []struct {
		selected byte
		want     map[int]byte
	}{
		{0x00, map[int]byte{144 * 114: 1}},
		{0x10, map[int]byte{144 * 114: 3}},
		{0x40, map[int]byte{144 * 114: 1, 150 * 114: 2}},
	} {
		m := with(t, plain)
		b := cpuBus(m)
		b.Write(0xff45, 150)
		b.Write(0xff41, x.selected)
		b.Write(0xff40, 0x80)
		isFlags(t, m, 0)
		for cycle := 1; cycle < 154*114; cycle++ {
			m.flags = 0
			idle(m, 1)
			isFlags(t, m, x.want[cycle])
		}
		if m.Video().Frames() != 1 {
			t.Errorf("%d frames", m.Video().Frames())
		}
	}
	m := with(t, plain)
	cpuBus(m).Write(0xff41, 0x08)
	cpuBus(m).Write(0xff40, 0x80)
	m.flags = 0x1c
	idle(m, 62)
	isFlags(t, m, 0x1c)
	idle(m, 1)
	isFlags(t, m, 0x1e)
}

// TestSoundAdvances: the sound board advances by a cycle in each cycle.
func TestSoundAdvances(t *testing.T) {
	m := with(t, plain)
	b := cpuBus(m)
	b.Write(0xff26, 0x80)
	idle(m, 2047)
	if m.board.Div != 2047 || m.board.Step != 0 {
		t.Errorf("Div %d, Step %d", m.board.Div, m.board.Step)
	}
	idle(m, 1)
	if m.board.Div != 0 || m.board.Step != 1 {
		t.Errorf("Div %d, Step %d", m.board.Div, m.board.Step)
	}
}

// TestClockAdvances: the clock advances by a cycle in each cycle, if the
// cartridge has one.
func TestClockAdvances(t *testing.T) {
	for _, mapper := range mappers() {
		m := with(t, mapper)
		m.clock.Sub = clock.Second - 2
		before := m.clock
		idle(m, 1)
		if mapper != clocked {
			idle(m, 2)
			if m.clock != before {
				t.Errorf("mapper %02x: clock %+v", mapper, m.clock)
			}
			continue
		}
		if m.clock.S != 0 || m.clock.Sub != clock.Second-1 {
			t.Errorf("clock %+v", m.clock)
		}
		idle(m, 2)
		if m.clock.S != 1 || m.clock.Sub != 1 {
			t.Errorf("clock %+v", m.clock)
		}
	}
}

// TestEveryKindIsACycle: each access lets all devices advance by one, and the
// number of cycles.
func TestEveryKindIsACycle(t *testing.T) {
	for n, access := range []func(b cpu.Bus){
		func(b cpu.Bus) { b.Fetch(0xc000) },
		func(b cpu.Bus) { b.Read(0xc000) },
		func(b cpu.Bus) { b.Write(0xc000, 1) },
		func(b cpu.Bus) { b.Idle() },
	} {
		m := with(t, clocked)
		m.port.Bits = 8
		m.copier.Left = 160
		m.board.On = true
		cpuBus(m).Write(0xff40, 0x80)
		b := cpuBus(m)
		before := m.state
		access(b)
		if m.cycles != before.cycles+1 || m.timer.Count != before.timer.Count+4 || m.port.Count != before.port.Count+1 {
			t.Errorf("access %d: %d cycles, Count %d and %d", n, m.cycles, m.timer.Count, m.port.Count)
		}
		if m.copier.Left != before.copier.Left-1 || m.board.Div != before.board.Div+1 || m.Video().Dot() != 1 || m.clock.Sub != before.clock.Sub+1 {
			t.Errorf("access %d: Left %d, Div %d, Dot %d, Sub %d", n, m.copier.Left, m.board.Div, m.Video().Dot(), m.clock.Sub)
		}
	}
}

// TestNoCycle: Pending and Ack are no cycles.
func TestNoCycle(t *testing.T) {
	m := with(t, clocked)
	b := cpuBus(m)
	for flags := range 256 {
		for enabled := range 256 {
			m.flags, m.enabled = byte(flags), byte(enabled)
			if got := b.Pending(); got != byte(flags&enabled&0x1f) {
				t.Errorf("flags %02x, enabled %02x: Pending = %02x", flags, enabled, got)
			}
		}
	}
	for n := range 5 {
		m.flags = 0x1f
		b.Ack(n)
		isFlags(t, m, byte(0x1f&^(1<<n)))
		b.Ack(n)
		isFlags(t, m, byte(0x1f&^(1<<n)))
	}
	if m.Cycles() != 0 || m.timer.Count != 0 {
		t.Errorf("%d cycles", m.Cycles())
	}
}

// TestCycleBeforeByte: the cycle of a read or a write is performed before it.
func TestCycleBeforeByte(t *testing.T) {
	m := running(t, 0xf0, 0x05, 0xe0, 0x04, 0xe0, 0x05)
	m.timer = timer.Timer{Count: 4, Tima: 0x41, Tac: 5}
	isStep(t, m, cpu.Ran, "Fc000=f0 Fc001=05 Rff05=42")
	m.timer.Count = 0x1234
	isStep(t, m, cpu.Ran, "Fc002=e0 Fc003=04 Wff04=42")
	if m.timer.Count != 0 {
		t.Errorf("Count %04x", m.timer.Count)
	}
	// Writing Tima in the cycle of its overflow prevents the interrupt.
	m.timer = timer.Timer{Count: 4, Tima: 0xff, Tac: 5}
	isStep(t, m, cpu.Ran, "Fc004=e0 Fc005=05 Wff05=42")
	idle(m, 1)
	if m.timer.Tima != 0x42 || m.flags != 0 {
		t.Errorf("%+v, flags %02x", m.timer, m.flags)
	}
	// A fetch, too: the code is the divider, at ff04.
	m = running(t)
	m.processor.R.PC = 0xff04
	m.timer.Count = 0x00fc
	isStep(t, m, cpu.Ran, "Fff04=01 Fff05=00 Fff06=00")
}

// TestFlagsBeforeWrite: a write of the interrupt flags comes after the requests
// of its cycle, and a read shows them.
func TestFlagsBeforeWrite(t *testing.T) {
	m := with(t, plain)
	m.timer.Over = true
	cpuBus(m).Write(0xff0f, 0x01)
	isFlags(t, m, 1)
	m.timer.Over = true
	if x := cpuBus(m).Read(0xff0f); x != 0xe5 {
		t.Errorf("flags read as %02x", x)
	}
}

// TestCopy: each page is copied byte by byte, one in each cycle.
func TestCopy(t *testing.T) {
	for page := range 256 {
		m := with(t, wide)
		m.banks.On = true
		for n := range m.ram {
			m.ram[n] = byte(n*5 + 1)
		}
		for n := range m.work {
			m.work[n] = byte(n*11 + n>>8 + 2)
		}
		for n := range 0x2000 {
			m.video.Write(0x8000+uint16(n), byte(n*13+n>>8+3))
		}
		cpuBus(m).Write(0xff46, byte(page))
		start := uint16(page) << 8
		if page >= 0xe0 {
			start = uint16(page-0x20) << 8
		}
		for n := range 162 {
			for k := range 160 {
				var want byte
				if k < n {
					want = m.Peek(start + uint16(k))
				}
				if got := m.Peek(0xfe00 + uint16(k)); got != want {
					t.Fatalf("page %02x after %d cycles: byte %d is %02x, want %02x", page, n, k, got, want)
				}
			}
			idle(m, 1)
		}
		isPeek(t, m, 0xff46, byte(page))
	}
}

// TestCopyPeeks: bytes are copied as Peek returns them, whatever the processor
// could read, and into memory that it could not write.
func TestCopyPeeks(t *testing.T) {
	m := with(t, contained)
	b := cpuBus(m)
	b.Write(0x8000, 0x5a)
	b.Write(0xff40, 0x80)
	idle(m, 30)
	if x := b.Read(0x8000); x != 0xff || m.Video().Mode() != 3 {
		t.Errorf("in mode %d, %02x", m.Video().Mode(), x)
	}
	b.Write(0xff46, 0x80)
	idle(m, 1)
	isPeek(t, m, 0xfe00, 0x5a)
	// The RAM of kind 2 shows four bits; hidden RAM shows ff.
	m.ram[0], m.ram[1] = 0x03, 0x47
	m.banks.On = true
	b.Write(0xff46, 0xa0)
	idle(m, 1)
	isPeek(t, m, 0xfe00, 0xf3)
	m.banks.On = false
	idle(m, 1)
	isPeek(t, m, 0xfe01, 0xff)
	// So does the register of a clock.
	m = with(t, clocked)
	m.banks.On, m.banks.High, m.clock.Held[2] = true, 10, 0x17
	cpuBus(m).Write(0xff46, 0xb0)
	idle(m, 160)
	isPeek(t, m, 0xfe00, 0x17)
	isPeek(t, m, 0xfe9f, 0x17)
}

// TestCopyBeforeUnit: a byte is copied before the picture unit advances, which
// renders its line with it.
func TestCopyBeforeUnit(t *testing.T) {
	for _, x := range []struct {
		left int
		want byte
	}{{160, 3}, {159, 0}} {
		m := with(t, plain)
		b := cpuBus(m)
		for n := range 16 {
			b.Write(0x8000+uint16(n), 0xff)
		}
		b.Write(0xff48, 0xff)
		b.Write(0xff40, 0x82)
		idle(m, 62)
		m.video.Sprite(1, 8)
		m.work[0] = 16
		m.copier = dma.Copier{Page: 0xc0, Left: x.left}
		idle(m, 1)
		if row := m.Video().Row(0); m.Video().Dot() != 63 || row[0] != x.want {
			t.Errorf("Left %d: shade %d, want %d", x.left, row[0], x.want)
		}
	}
}

// TestBlocked: while a page is copied, the processor reads ff and writes nothing
// below ff00, from the first cycle after the write to the one before the last
// byte.
func TestBlocked(t *testing.T) {
	for cycle := 1; cycle <= 163; cycle++ {
		for _, kind := range []int{api.Fetch, api.Read, api.Write} {
			m := running(t)
			m.work[0x167] = 0x5a
			cpuBus(m).Write(0xff46, 0xc0)
			idle(m, cycle-1)
			x, now := accessWork(m, kind)
			want, wantNow := byte(0x5a), byte(0x33)
			if cycle < 160 {
				want, wantNow = 0xff, 0x5a
			}
			if kind == api.Write && now != wantNow || kind != api.Write && x != want {
				t.Errorf("cycle %d, access %d: %02x, then %02x", cycle, kind, x, now)
			}
		}
	}
}

// accessWork accesses a byte of the work RAM, and returns what was read, and
// what is there after it.
func accessWork(m *Machine, kind int) (x, now byte) {
	b := cpuBus(m)
	switch kind {
	case api.Fetch:
		x = b.Fetch(0xc167)
	case api.Read:
		x = b.Read(0xc167)
	case api.Write:
		b.Write(0xc167, 0x33)
	}
	return x, m.Peek(0xc167)
}

// TestBlockedEverywhere: which memory the processor can access while a page is
// copied.
func TestBlockedEverywhere(t *testing.T) {
	m := with(t, wide)
	m.banks.On = true
	for addr := range 0x10000 {
		if addr >= 0xff00 && addr < 0xff80 {
			continue
		}
		m.copier.Left = 100
		want := byte(0xff)
		before := m.Peek(uint16(addr))
		if addr >= 0xff80 {
			want = before
		}
		if got := cpuBus(m).Read(uint16(addr)); got != want {
			t.Errorf("Read(%04x) = %02x, want %02x", addr, got, want)
		}
		if got := cpuBus(m).Fetch(uint16(addr)); got != want {
			t.Errorf("Fetch(%04x) = %02x, want %02x", addr, got, want)
		}
		banks := m.banks
		cpuBus(m).Write(uint16(addr), before^0x55)
		isWritten := m.Peek(uint16(addr)) == before^0x55
		if isWritten != (addr >= 0xff80) || m.banks != banks {
			t.Errorf("Write(%04x): %02x, then %02x", addr, before, m.Peek(uint16(addr)))
		}
	}
}

// TestBlockedRegisters: the registers can be accessed while a page is copied.
func TestBlockedRegisters(t *testing.T) {
	for _, addr := range []uint16{0xff01, 0xff06, 0xff30, 0xff42, 0xff45, 0xff47, 0xff4b} {
		m := with(t, plain)
		m.copier.Left = 100
		cpuBus(m).Write(addr, 0x5a)
		isPeek(t, m, addr, 0x5a)
		if x := cpuBus(m).Read(addr); x != 0x5a {
			t.Errorf("Read(%04x) = %02x", addr, x)
		}
	}
}

// TestBlockedAccesses: what is listed is what the processor read or wrote.
func TestBlockedAccesses(t *testing.T) {
	m := running(t, 0x00)
	m.copier.Left = 100
	m.processor.R.PC = 0xff80
	copy(m.high[:], []byte{0x77, 0x7e, 0xc5, 0xe0, 0x81})
	isStep(t, m, cpu.Ran, "Fff80=77 Wc167=12")
	isPeek(t, m, 0xc167, 0)
	isStep(t, m, cpu.Ran, "Fff81=7e Rc167=ff")
	isStep(t, m, cpu.Ran, "Fff82=c5 I Wdffd=23 Wdffc=83")
	isPeek(t, m, 0xdffd, 0)
	isStep(t, m, cpu.Ran, "Fff83=e0 Fff84=81 Wff81=ff")
	m.processor.R.PC = 0xc000
	m.copier.Left = 100
	isStep(t, m, cpu.Ran, "Fc000=ff I Wdffb=c0 Wdffa=01")
	if m.State().R.PC != 0x38 {
		t.Errorf("PC %04x", m.State().R.PC)
	}
}

// TestCopyAgain: a write while a page is copied begins with another one.
func TestCopyAgain(t *testing.T) {
	m := with(t, plain)
	for n := range m.work {
		m.work[n] = byte(n >> 8)
	}
	b := cpuBus(m)
	b.Write(0xff46, 0xc1)
	idle(m, 50)
	b.Write(0xff46, 0xc2)
	isPeek(t, m, 0xfe00, 1)
	isPeek(t, m, 0xfe32, 1)
	isPeek(t, m, 0xfe33, 0)
	idle(m, 160)
	for n := range uint16(160) {
		isPeek(t, m, 0xfe00+n, 2)
	}
	if m.copier.Busy() {
		t.Error("the copier is busy")
	}
}

// TestPadRequests: selecting keys that are pressed sets bit 4.
func TestPadRequests(t *testing.T) {
	m := with(t, plain)
	b := cpuBus(m)
	b.Write(0xff00, 0x30)
	m.pad, _ = m.pad.Press(0x12)
	m.flags = 0x05
	b.Write(0xff00, 0x30)
	isFlags(t, m, 0x05)
	b.Write(0xff00, 0x20)
	isFlags(t, m, 0x15)
	isPeek(t, m, 0xff00, 0xed)
	m.flags = 0
	b.Write(0xff00, 0x10)
	isFlags(t, m, 0x10)
	isPeek(t, m, 0xff00, 0xde)
	m.flags = 0
	b.Write(0xff00, 0xff)
	isFlags(t, m, 0)
	isPeek(t, m, 0xff00, 0xff)
}

// TestUnitWriteRequests: a write to the unit that makes its signal active sets
// bit 1.
func TestUnitWriteRequests(t *testing.T) {
	m := with(t, plain)
	b := cpuBus(m)
	m.flags = 0x1c
	b.Write(0xff41, 0x40)
	isFlags(t, m, 0x1c)
	b.Write(0xff40, 0x80)
	isFlags(t, m, 0x1e)
	m.flags = 0
	b.Write(0xff45, 9)
	isFlags(t, m, 0)
	b.Write(0xff45, 0)
	isFlags(t, m, 2)
	if m.Video().Read(0xff45) != 0 || ppu.Stat != statFlag || ppu.Blank != blankFlag {
		t.Error("the requests are not the bits of the flags")
	}
}
