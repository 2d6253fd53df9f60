package machine

import "retrograde/api"

// longestStep is how many cycles a step has at most.
const longestStep = 6

// The interrupts, as bits of the interrupt flags. The first two have the
// numbers of the requests of the picture unit, which are taken as they are.
const (
	blankFlag = 1 << iota
	statFlag
	timerFlag
	portFlag
	padFlag

	allFlags = blankFlag | statFlag | timerFlag | portFlag | padFlag
)

// bus is a machine as its processor accesses it during a step, with the accesses
// so far.
type bus struct {
	*Machine
	accesses []api.Access
}

// Fetch is a cycle in which a byte of an instruction is read.
func (b *bus) Fetch(addr uint16) byte { return b.load(api.Fetch, addr) }

// Read is a cycle in which a byte is read.
func (b *bus) Read(addr uint16) byte { return b.load(api.Read, addr) }

// Write is a cycle in which a byte is written.
func (b *bus) Write(addr uint16, x byte) {
	b.cycle()
	b.write(addr, x)
	b.note(api.Access{Kind: api.Write, Addr: addr, Value: x})
}

// Idle is a cycle without a byte.
func (b *bus) Idle() {
	b.cycle()
	b.note(api.Access{Kind: api.Idle})
}

// Pending returns the interrupts that are requested and enabled.
func (b *bus) Pending() byte { return b.flags & b.enabled & allFlags }

// Ack takes back the request of interrupt n.
func (b *bus) Ack(n int) { b.flags &^= 1 << n }

// load is a cycle of some kind in which a byte is read.
func (b *bus) load(kind int, addr uint16) byte {
	b.cycle()
	x := b.read(addr)
	b.note(api.Access{Kind: kind, Addr: addr, Value: x})
	return x
}

// note adds an access.
func (b *bus) note(a api.Access) { b.accesses = append(b.accesses, a) }

// cycle lets all devices advance by a cycle.
func (m *Machine) cycle() {
	m.cycles++
	var request bool
	m.timer, request = m.timer.Tick()
	m.request(timerFlag, request)
	m.port, request = m.port.Tick()
	m.request(portFlag, request)
	m.copySprite()
	m.board = m.board.Tick()
	m.flags |= m.video.Tick()
	if m.cart.Clock {
		m.clock = m.clock.Tick(1)
	}
}

// copySprite lets the copier advance, and copies the byte that is due.
func (m *Machine) copySprite() {
	copier, addr, n, copies := m.copier.Tick()
	m.copier = copier
	if copies {
		m.video.Sprite(n, m.Peek(addr))
	}
}

// request requests an interrupt, if a device does.
func (m *Machine) request(flag byte, requested bool) {
	if requested {
		m.flags |= flag
	}
}
