package ppu

import (
	"bytes"
	"slices"
	"testing"

	"retrograde/api"
	"retrograde/sprites"
	"retrograde/tiles"
)

// The tests of this file hold a unit against a second reading of the document:
// its bytes are at their addresses, its position is the number of cycles since
// the beginning of the picture, and everything else follows from them.

// model is the second reading.
type model struct {
	bytes  [0x10000]byte
	at     int
	own    int
	frames int
	signal bool
	rows   [][]byte
}

// modelOf returns the model of an encoded state.
func modelOf(b []byte) *model {
	m := new(model)
	copy(m.bytes[0x8000:], b[:0x2000])
	copy(m.bytes[0xfe00:], b[0x2000:0x20a0])
	for n, addr := range registerAddresses() {
		m.bytes[addr] = b[0x20a0+n]
	}
	rest := b[0x20ab:]
	m.at = 114*int(m.bytes[0xff44]) + int(rest[0])
	m.own = int(rest[1])
	m.frames = int(rest[2]) + 256*int(rest[3])
	m.signal = rest[4] == 1
	for row := range slices.Chunk(slices.Clone(rest[5:]), 160) {
		m.rows = append(m.rows, row)
	}
	return m
}

// encode returns the encoded state of a model.
func (m *model) encode() []byte {
	b := slices.Concat(m.bytes[0x8000:0xa000], m.bytes[0xfe00:0xfea0])
	m.bytes[0xff44] = byte(m.at / 114)
	for _, addr := range registerAddresses() {
		b = append(b, m.bytes[addr])
	}
	b = append(b, byte(m.at%114), byte(m.own%256), byte(m.frames%256), byte(m.frames/256))
	if m.signal {
		b = append(b, 1)
	} else {
		b = append(b, 0)
	}
	return append(b, slices.Concat(m.rows...)...)
}

// on reports whether the unit is on.
func (m *model) on() bool { return m.bytes[0xff40] >= 128 }

// mode returns the mode.
func (m *model) mode() int {
	if !m.on() {
		return 0
	}
	return wantMode(m.at/114, m.at%114)
}

// equal reports whether the line is the one to compare with.
func (m *model) equal() bool { return m.at/114 == int(m.bytes[0xff45]) }

// asks determines the signal again, and returns what it requests.
func (m *model) asks() byte {
	selected := m.bytes[0xff41] / 8
	sources := []bool{m.mode() == 0, m.mode() == 1, m.mode() == 2, m.equal()}
	now := false
	for n, holds := range sources {
		if holds && m.on() && selected>>n%2 == 1 {
			now = true
		}
	}
	before := m.signal
	m.signal = now
	if now && !before {
		return 2
	}
	return 0
}

// tick is Tick.
func (m *model) tick() byte {
	if !m.on() {
		return 0
	}
	m.at++
	var requests byte
	switch {
	case m.at%114 == 63 && m.at < 144*114:
		m.draw(m.at / 114)
	case m.at == 144*114:
		requests = 1
		m.frames = (m.frames + 1) % 65536
	case m.at == 154*114:
		m.at, m.own = 0, 0
	}
	return requests + m.asks()
}

// draw renders a line.
func (m *model) draw(line int) {
	r := m.bytes[0xff40:0xff4c]
	view := tiles.View{Control: r[0], ScrollY: r[2], ScrollX: r[3], WindowY: r[10], WindowX: r[11]}
	look := sprites.Look{Control: r[0], Back: r[7], First: r[8], Second: r[9]}
	vram, oam := m.bytes[0x8000:0xa000], m.bytes[0xfe00:0xfea0]
	below, visible := view.Line(vram, line, m.own)
	row := look.Line(vram, oam, line, below)
	m.rows[line] = row[:]
	if visible {
		m.own = (m.own + 1) % 256
	}
}

// peek is Peek.
func (m *model) peek(addr uint16) byte {
	switch {
	case addr == 0xff44:
		return byte(m.at / 114)
	case addr == 0xff41:
		x := 128 + m.bytes[addr] + byte(m.mode())
		if m.on() && m.equal() {
			x += 4
		}
		return x
	case addr>>13 == 4, addr>>8 == 0xfe && addr&0xff < 0xa0, slices.Contains(registerAddresses(), addr):
		return m.bytes[addr]
	}
	return 0xff
}

// hidden reports whether the byte at addr is not visible in the mode.
func (m *model) hidden(addr uint16) bool {
	return addr>>13 == 4 && m.mode() == 3 || addr>>8 == 0xfe && addr&0xff < 0xa0 && m.mode() >= 2
}

// read is Read.
func (m *model) read(addr uint16) byte {
	if m.hidden(addr) {
		return 0xff
	}
	return m.peek(addr)
}

// write is Write.
func (m *model) write(addr uint16, x byte) byte {
	if m.hidden(addr) {
		return 0
	}
	before := m.on()
	switch addr {
	case 0xff41:
		m.bytes[addr] = x / 8 % 16 * 8
	case 0xff44:
	default:
		m.bytes[addr] = x
	}
	if before && !m.on() {
		m.at, m.own = 0, 0
	}
	if !slices.Contains(registerAddresses(), addr) {
		return 0
	}
	return m.asks()
}

// anyAddress returns an address, most often one of the unit's.
func anyAddress(number func(below int) int) uint16 {
	switch number(8) {
	case 0:
		return uint16(number(0x10000))
	case 1:
		return uint16(0x8000 + number(0x2000))
	case 2:
		return uint16(0xfdf8 + number(0xb0))
	}
	return uint16(0xff3e + number(16))
}

// anyByte returns a byte to be written to addr, which most often leaves the unit
// on, and often is near the position.
func anyByte(number func(below int) int, m *model, addr uint16) byte {
	switch {
	case addr == 0xff40 && number(8) > 0:
		return byte(128 + number(128))
	case addr == 0xff45 && number(2) == 0:
		return byte(m.at/114 + number(3) - 1)
	case addr == 0xff4a && number(2) == 0:
		return byte(m.at/114 + number(5) - 2)
	}
	return byte(number(256))
}

// nearState returns an encoded state, often shortly before something happens.
func nearState(number func(below int) int) []byte {
	b := anyState(number)
	if number(4) > 0 {
		b[controlAtByte] |= 0x80
	}
	if number(2) == 0 {
		b[lineAtByte] = []byte{0, 1, 142, 143, 144, 152, 153}[number(7)]
	}
	if number(2) == 0 {
		b[dotAtByte] = []byte{0, 18, 19, 20, 61, 62, 63, 112, 113}[number(9)]
	}
	// Sprites are near the line.
	for n := range 40 {
		if number(2) == 0 {
			b[oamAtByte+4*n] = b[lineAtByte] + byte(number(17))
		}
	}
	return b
}

// TestSecondReading: calls of all kinds from states of all kinds.
func TestSecondReading(t *testing.T) {
	number := numbers(4)
	for round := range 600 {
		b := nearState(number)
		u, m := New(), modelOf(b)
		if e := u.Decode(b); e != api.OK {
			t.Fatalf("Decode = %d", e)
		}
		for range 40 {
			call(t, number, u, m)
			if !bytes.Equal(u.Encode(), m.encode()) {
				t.Fatalf("line %d, cycle %d: other states", u.Line(), u.Dot())
			}
		}
		if round%50 == 0 {
			isEverywhere(t, u, m)
		}
	}
}

// isEverywhere checks what is at each address.
func isEverywhere(t *testing.T, u *Unit, m *model) {
	t.Helper()
	for addr := range 0x10000 {
		isPeek(t, u, uint16(addr), m.peek(uint16(addr)))
		isRead(t, u, uint16(addr), m.read(uint16(addr)))
	}
}

// call makes one call and checks its result.
func call(t *testing.T, number func(below int) int, u *Unit, m *model) {
	t.Helper()
	addr := anyAddress(number)
	switch number(8) {
	case 0, 1:
		for range number(130) {
			isTick(t, u, m.tick())
		}
	case 2:
		isTick(t, u, m.tick())
	case 3:
		n := number(180) - 10
		u.Sprite(n, byte(addr))
		if n >= 0 && n < 160 {
			m.bytes[0xfe00+n] = byte(addr)
		}
	default:
		x := anyByte(number, m, addr)
		isWrite(t, u, addr, x, m.write(addr, x))
	}
	isAt(t, u, m.at/114, m.at%114, m.mode())
	isPeek(t, u, 0xff41, m.peek(0xff41))
	isRead(t, u, addr, m.read(addr))
	if u.Frames() != m.frames {
		t.Errorf("%d frames, want %d", u.Frames(), m.frames)
	}
}

// TestEverySignal: each selection of interrupts, with several lines to compare
// with, through more than a picture.
func TestEverySignal(t *testing.T) {
	for selected := range 16 {
		for _, compared := range []byte{0, 1, 77, 143, 144, 145, 153, 154, 255} {
			u, m := New(), modelOf(state(nil))
			for _, w := range []struct {
				addr uint16
				x    byte
			}{{0xff45, compared}, {0xff41, byte(8 * selected)}, {0xff40, 0x80}} {
				isWrite(t, u, w.addr, w.x, m.write(w.addr, w.x))
			}
			for range 155 * 114 {
				isTick(t, u, m.tick())
			}
			isAt(t, u, m.at/114, m.at%114, m.mode())
		}
	}
}

// TestEveryPosition: one cycle, and one write to each register, from each
// position, with the signal as it may be there.
func TestEveryPosition(t *testing.T) {
	number := numbers(5)
	b := anyState(number)
	u, m := New(), modelOf(b)
	for at := range 154 * 114 {
		b[lineAtByte], b[dotAtByte] = byte(at/114), byte(at%114)
		b[controlAtByte] = byte(0x80 | number(256))
		b[controlAtByte+1] = byte(number(16) * 8)
		b[controlAtByte+5] = byte(at/114 + number(2))
		b[signalAtByte] = byte(number(2))
		if e := u.Decode(b); e != api.OK {
			t.Fatalf("Decode = %d", e)
		}
		m.take(b)
		isAt(t, u, at/114, at%114, m.mode())
		isPeek(t, u, 0xff41, m.peek(0xff41))
		isTick(t, u, m.tick())
		for _, addr := range registerAddresses()[1:] {
			x := byte(number(256))
			isWrite(t, u, addr, x, m.write(addr, x))
		}
		isWrite(t, u, 0xff40, 0, m.write(0xff40, 0))
		isWrite(t, u, 0xff40, 0xff, m.write(0xff40, 0xff))
		isAt(t, u, 0, 0, 2)
	}
}

// take sets what TestEveryPosition changes from one position to the next.
func (m *model) take(b []byte) {
	for n, addr := range registerAddresses() {
		m.bytes[addr] = b[0x20a0+n]
	}
	m.at = 114*int(b[lineAtByte]) + int(b[dotAtByte])
	m.own = int(b[ownAtByte])
	m.signal = b[signalAtByte] == 1
}
