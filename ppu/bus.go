package ppu

// The memories and the registers on the bus.
const (
	videoAt    = 0x8000
	videoBytes = 0x2000
	oamAt      = 0xfe00
	oamBytes   = 160
	registerAt = 0xff40
)

// gap is how far ff46 is behind the first register: it belongs to another
// device.
const gap = 6

// The registers, in the order of their addresses.
const (
	control = iota
	selection
	scrollY
	scrollX
	current
	compare
	back
	first
	second
	windowY
	windowX
	registerCount
)

// The bits of ff41 that are not written.
const (
	alwaysBit = 0x80
	equalBit  = 0x04
)

// nothing is what is read where there is nothing, or nothing is visible.
const nothing = 0xff

// Read returns the byte at addr, as it is visible in the current mode.
func (u *Unit) Read(addr uint16) byte {
	if u != nil && u.hides(addr) {
		return nothing
	}
	return u.Peek(addr)
}

// Peek returns the byte at addr, in any mode.
func (u *Unit) Peek(addr uint16) byte {
	if u == nil {
		return 0
	}
	if n, ok := registerNumber(addr); ok {
		return u.register(n)
	}
	if b := u.stored(addr); b != nil {
		return *b
	}
	return nothing
}

// Write sets the byte at addr, unless it is hidden in the current mode, and
// returns the requests.
func (u *Unit) Write(addr uint16, x byte) byte {
	if u == nil || u.hides(addr) {
		return 0
	}
	if n, ok := registerNumber(addr); ok {
		u.setRegister(n, x)
		return u.signal()
	}
	if b := u.stored(addr); b != nil {
		*b = x
	}
	return 0
}

// Sprite sets a byte of the sprite memory, in any mode.
func (u *Unit) Sprite(n int, x byte) {
	if u != nil && n >= 0 && n < oamBytes {
		u.oam[n] = x
	}
}

// hides reports whether the byte at addr is hidden in the current mode.
func (u *Unit) hides(addr uint16) bool {
	switch u.Mode() {
	case scanMode:
		return inOam(addr)
	case drawMode:
		return inOam(addr) || inVideo(addr)
	}
	return false
}

// stored returns where the byte of a memory is that addr belongs to, or nil if
// it belongs to none.
func (u *Unit) stored(addr uint16) *byte {
	switch {
	case inVideo(addr):
		return &u.video[addr-videoAt]
	case inOam(addr):
		return &u.oam[addr-oamAt]
	}
	return nil
}

// inVideo reports whether addr belongs to the video memory.
func inVideo(addr uint16) bool { return addr >= videoAt && addr < videoAt+videoBytes }

// inOam reports whether addr belongs to the sprite memory.
func inOam(addr uint16) bool { return addr >= oamAt && addr < oamAt+oamBytes }

// registerNumber returns which register is at addr, and whether there is one.
func registerNumber(addr uint16) (int, bool) {
	n := int(addr) - registerAt
	switch {
	case n >= 0 && n < gap:
		return n, true
	case n > gap && n <= registerCount:
		return n - 1, true
	}
	return 0, false
}

// register returns what a register shows.
func (u *Unit) register(n int) byte {
	x := u.registers[n]
	if n != selection {
		return x
	}
	x |= alwaysBit | byte(u.Mode())
	if u.on() && u.onCompared() {
		x |= equalBit
	}
	return x
}

// setRegister sets what of a register can be written.
func (u *Unit) setRegister(n int, x byte) {
	switch n {
	case selection:
		u.registers[selection] = x & selectors
	case current:
		// Only cycles, and switching the unit off, change the line.
	case control:
		u.setControl(x)
	default:
		u.registers[n] = x
	}
}

// setControl sets Control. Only a unit that was on is switched off: one that a
// state put elsewhere while it is off stays there.
func (u *Unit) setControl(x byte) {
	before := u.on()
	u.registers[control] = x
	if before && !u.on() {
		u.registers[current] = 0
		u.dot = 0
		u.own = 0
	}
}
