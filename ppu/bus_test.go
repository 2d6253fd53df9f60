package ppu

import (
	"maps"
	"testing"
)

// TestMemories: the first and the last byte of each memory, and those beside
// them, while the unit is off.
func TestMemories(t *testing.T) {
	for _, x := range []struct {
		addr  uint16
		place int
	}{
		{0x8000, 0}, {0x8001, 1}, {0x9234, 0x1234}, {0x9fff, 0x1fff},
		{0xfe00, oamAtByte}, {0xfe01, oamAtByte + 1}, {0xfe9f, oamAtByte + 159},
	} {
		u := New()
		isWrite(t, u, x.addr, 0x5a, 0)
		isPeek(t, u, x.addr, 0x5a)
		isRead(t, u, x.addr, 0x5a)
		hasState(t, u, set{x.place: 0x5a})
	}
}

// TestNoAddress: writes to all other addresses do nothing, in any mode, even if
// the signal is not what it should be.
func TestNoAddress(t *testing.T) {
	for _, some := range modes() {
		some[controlAtByte+1] = 0x78
		u := unitOf(t, some)
		for addr := range 0x10000 {
			switch {
			case addr >= 0x8000 && addr < 0xa000, addr >= 0xfe00 && addr < 0xfea0:
				continue
			case addr >= 0xff40 && addr <= 0xff4b && addr != 0xff46:
				continue
			}
			isWrite(t, u, uint16(addr), 0x81, 0)
			isPeek(t, u, uint16(addr), 0xff)
			isRead(t, u, uint16(addr), 0xff)
		}
		hasState(t, u, some)
	}
}

// TestHidden: which memory is visible in which mode.
func TestHidden(t *testing.T) {
	video := []uint16{0x8000, 0x8fff, 0x9fff}
	oam := []uint16{0xfe00, 0xfe50, 0xfe9f}
	for n, x := range []struct{ video, oam bool }{{true, true}, {true, true}, {true, false}, {false, false}, {true, true}} {
		for _, addr := range video {
			isVisible(t, modes()[n], addr, int(addr-0x8000), x.video)
		}
		for _, addr := range oam {
			isVisible(t, modes()[n], addr, oamAtByte+int(addr-0xfe00), x.oam)
		}
	}
}

// isVisible checks Peek, Read and Write of a byte of a memory.
func isVisible(t *testing.T, some set, addr uint16, place int, visible bool) {
	t.Helper()
	some[place] = 0x12
	// The signal would be active.
	some[controlAtByte+1] = 0x78
	u := unitOf(t, some)
	isPeek(t, u, addr, 0x12)
	if visible {
		isRead(t, u, addr, 0x12)
		some[place] = 0x34
	} else {
		isRead(t, u, addr, 0xff)
	}
	isWrite(t, u, addr, 0x34, 0)
	isPeek(t, u, addr, some[place])
	hasState(t, u, some)
}

// TestHiddenCycles: from which cycle to which one the memories are hidden.
func TestHiddenCycles(t *testing.T) {
	u := New()
	u.Write(0xff40, 0x80)
	for line := range 154 {
		for dot := range 114 {
			video, oam := byte(0), byte(0)
			if line < 144 && dot >= 20 && dot < 63 {
				video = 0xff
			}
			if line < 144 && dot < 63 {
				oam = 0xff
			}
			isRead(t, u, 0x8000, video)
			isRead(t, u, 0xfe00, oam)
			isPeek(t, u, 0x8000, 0)
			isPeek(t, u, 0xfe00, 0)
			u.Tick()
		}
	}
}

// TestRegisters: every byte in every register that keeps it as it is, in every
// mode.
func TestRegisters(t *testing.T) {
	for _, some := range modes() {
		for n, addr := range registerAddresses() {
			if n == 0 || n == 1 || n == 4 {
				continue
			}
			u := unitOf(t, some)
			want := maps.Clone(some)
			for x := range 256 {
				isWrite(t, u, addr, byte(x), 0)
				isPeek(t, u, addr, byte(x))
				isRead(t, u, addr, byte(x))
				want[controlAtByte+n] = byte(x)
				hasState(t, u, want)
			}
		}
	}
}

// TestSelection: every byte written to ff41, in every mode.
func TestSelection(t *testing.T) {
	for n, some := range modes() {
		mode := byte(n % 4)
		some[controlAtByte+5] = 3 // the line of all of them but one
		equal := byte(4)
		if n == 1 || n == 4 {
			equal = 0
		}
		u := unitOf(t, some)
		for x := range 256 {
			u.Write(0xff41, byte(x))
			isPeek(t, u, 0xff41, 0x80|byte(x)&0x78|equal|mode)
			isRead(t, u, 0xff41, 0x80|byte(x)&0x78|equal|mode)
			if got := u.Encode()[controlAtByte+1]; got != byte(x)&0x78 {
				t.Errorf("%02x written, %02x kept", x, got)
			}
		}
	}
}

// TestEqual: bit 2 of ff41 for each line to compare with.
func TestEqual(t *testing.T) {
	for line := range 154 {
		for _, control := range []byte{0x80, 0x7f} {
			u := unitOf(t, set{controlAtByte: control, lineAtByte: byte(line), dotAtByte: 100})
			for compared := range 256 {
				isWrite(t, u, 0xff45, byte(compared), 0)
				equal := u.Peek(0xff41)&4 != 0
				if want := control == 0x80 && compared == line; equal != want {
					t.Errorf("line %d, compared with %d, Control %02x: %t", line, compared, control, equal)
				}
			}
		}
	}
}

// TestLineRegister: ff44 is the line, and is not written.
func TestLineRegister(t *testing.T) {
	for line := range 154 {
		some := set{controlAtByte: 0x80, lineAtByte: byte(line), dotAtByte: 30, ownAtByte: 2}
		u := unitOf(t, some)
		for _, x := range []byte{0, 1, 0x78, 0xff} {
			isWrite(t, u, 0xff44, x, 0)
			isPeek(t, u, 0xff44, byte(line))
			isRead(t, u, 0xff44, byte(line))
		}
		hasState(t, u, some)
	}
}

// TestSwitchOff: the position becomes 0, and nothing else.
func TestSwitchOff(t *testing.T) {
	for x := range 128 {
		some := set{
			controlAtByte: 0x91, controlAtByte + 1: 0x78, lineAtByte: 20, controlAtByte + 5: 20,
			dotAtByte: 7, ownAtByte: 9, framesAtByte: 3, signalAtByte: 1, rowsAtByte: 2, 5: 6, oamAtByte: 8,
		}
		u := unitOf(t, some)
		isWrite(t, u, 0xff40, byte(x), 0)
		maps.Copy(some, set{controlAtByte: byte(x), lineAtByte: 0, dotAtByte: 0, ownAtByte: 0, signalAtByte: 0})
		hasState(t, u, some)
		isAt(t, u, 0, 0, 0)
	}
}

// TestNotSwitchedOff: a write of Control leaves the position as it is if the
// unit was off before, or is on after it.
func TestNotSwitchedOff(t *testing.T) {
	for before := range 256 {
		for _, x := range []byte{0, 1, 0x7f, 0x80, 0x81, 0xff} {
			if before >= 0x80 && x < 0x80 {
				continue
			}
			some := set{controlAtByte: byte(before), lineAtByte: 20, dotAtByte: 7, ownAtByte: 9}
			u := unitOf(t, some)
			isWrite(t, u, 0xff40, x, 0)
			some[controlAtByte] = x
			hasState(t, u, some)
		}
	}
}

// TestOnAgain: a unit that was switched off begins from the upper left corner.
func TestOnAgain(t *testing.T) {
	u := New()
	u.Write(0xff40, 0x80)
	ticks(u, 150*114+30)
	isAt(t, u, 150, 30, 1)
	u.Write(0xff40, 0)
	isAt(t, u, 0, 0, 0)
	ticks(u, 100)
	u.Write(0xff40, 0x80)
	isAt(t, u, 0, 0, 2)
	ticks(u, 114)
	isAt(t, u, 1, 0, 2)
	if u.Frames() != 1 {
		t.Errorf("%d frames", u.Frames())
	}
}
