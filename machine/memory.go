package machine

// Where the parts of the address space begin.
const (
	videoAt    = 0x8000
	cartAt     = 0xa000
	workAt     = 0xc000
	echoAt     = 0xe000
	oamAt      = 0xfe00
	oamEnd     = 0xfea0
	registerAt = 0xff00
	highAt     = 0xff80
	highEnd    = 0xffff
)

// The registers, by their distance from registerAt.
const (
	padAt     = 0x00
	portAt    = 0x01
	portEnd   = 0x03
	timerAt   = 0x04
	timerEnd  = 0x08
	flagsAt   = 0x0f
	soundAt   = 0x10
	soundEnd  = 0x40
	unitAt    = 0x40
	unitEnd   = 0x4c
	copierAt  = 0x46
	enabledAt = 0xff
)

// The places that an address can belong to.
const (
	nowhere = iota
	inRom
	inVideo
	inCart
	inWork
	inHigh
	inPad
	inPort
	inTimer
	inFlags
	inSound
	inCopier
	inEnabled
)

// nothing is what is read where there is nothing, or nothing is visible.
const nothing = 0xff

// unusedFlags are the bits of the interrupt flags that no interrupt has.
const unusedFlags = 0xe0

// The RAM that the mappers of one kind contain has only the lower four bits.
const (
	halfRamKind = 2
	upperBits   = 0xf0
)

// find returns the place that addr belongs to, and the number of its byte there
// (or 0 if the place itself goes by addr).
func find(addr uint16) (place, n int) {
	switch {
	case addr < videoAt:
		return inRom, 0
	case addr < cartAt:
		return inVideo, 0
	case addr < workAt:
		return inCart, 0
	case addr < echoAt:
		return inWork, int(addr - workAt)
	case addr < oamAt:
		return inWork, int(addr - echoAt)
	case addr < oamEnd:
		return inVideo, 0
	case addr < registerAt:
		return nowhere, 0
	case addr >= highAt && addr < highEnd:
		return inHigh, int(addr - highAt)
	}
	return findRegister(int(addr - registerAt))
}

// findRegister is find for the register at a distance from registerAt.
func findRegister(at int) (place, n int) {
	switch {
	case at == padAt:
		return inPad, 0
	case at >= portAt && at < portEnd:
		return inPort, at - portAt
	case at >= timerAt && at < timerEnd:
		return inTimer, at - timerAt
	case at == flagsAt:
		return inFlags, 0
	case at >= soundAt && at < soundEnd:
		return inSound, at - soundAt
	case at == copierAt:
		return inCopier, 0
	case at >= unitAt && at < unitEnd:
		return inVideo, 0
	case at == enabledAt:
		return inEnabled, 0
	}
	return nowhere, 0
}

// Peek returns the byte at addr, whether the processor may access it or not.
func (m *Machine) Peek(addr uint16) byte {
	if m.none() {
		return 0
	}
	place, n := find(addr)
	switch place {
	case inRom:
		return m.rom[m.banks.Rom(addr)]
	case inVideo:
		return m.video.Peek(addr)
	case inCart:
		return m.peekCart(addr)
	case inWork:
		return m.work[n]
	case inHigh:
		return m.high[n]
	case inPad:
		return m.pad.Read()
	case inPort:
		return m.port.Read(n)
	case inTimer:
		return m.timer.Read(n)
	case inFlags:
		return m.flags | unusedFlags
	case inSound:
		return m.board.Read(n)
	case inCopier:
		return m.copier.Page
	case inEnabled:
		return m.enabled
	}
	return nothing
}

// peekCart returns what the cartridge shows at an address that is not in its ROM.
func (m *Machine) peekCart(addr uint16) byte {
	if part, visible := m.banks.Clock(); visible {
		return m.clock.Read(part)
	}
	at, visible := m.banks.At(addr)
	switch {
	case !visible:
		return nothing
	case m.cart.Kind == halfRamKind:
		return m.ram[at] | upperBits
	}
	return m.ram[at]
}

// read returns the byte that the processor reads at addr.
func (m *Machine) read(addr uint16) byte {
	if !m.copier.Lets(addr) {
		return nothing
	}
	if place, _ := find(addr); place == inVideo {
		return m.video.Read(addr)
	}
	return m.Peek(addr)
}

// write performs the write of x at addr by the processor.
func (m *Machine) write(addr uint16, x byte) {
	if !m.copier.Lets(addr) {
		return
	}
	place, n := find(addr)
	switch place {
	case inRom:
		m.writeBanks(addr, x)
	case inVideo:
		m.flags |= m.video.Write(addr, x)
	case inCart:
		m.writeCart(addr, x)
	case inWork:
		m.work[n] = x
	case inHigh:
		m.high[n] = x
	case inPad:
		var request bool
		m.pad, request = m.pad.Write(x)
		m.request(padFlag, request)
	case inPort:
		m.port = m.port.Write(n, x)
	case inTimer:
		m.timer = m.timer.Write(n, x)
	case inFlags:
		m.flags = x & allFlags
	case inSound:
		m.board = m.board.Write(n, x)
	case inCopier:
		m.copier = m.copier.Write(x)
	case inEnabled:
		m.enabled = x
	}
}

// writeBanks performs a write to the map, which may latch the clock.
func (m *Machine) writeBanks(addr uint16, x byte) {
	banks, latch := m.banks.Write(addr, x)
	m.banks = banks
	if latch {
		m.clock = m.clock.Hold()
	}
}

// writeCart performs a write to what the cartridge shows at an address that is
// not in its ROM.
func (m *Machine) writeCart(addr uint16, x byte) {
	if part, visible := m.banks.Clock(); visible {
		m.clock = m.clock.Write(part, x)
		return
	}
	if at, visible := m.banks.At(addr); visible {
		m.ram[at] = x
	}
}
