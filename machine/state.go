package machine

import (
	"math"
	"math/bits"

	"retrograde/api"
	"retrograde/clock"
	"retrograde/regs"
	"retrograde/serial"
	"retrograde/sound"
)

// The greatest values of numbers that have a limit.
const (
	maxByte    = 0xff
	maxLow     = 0x1ff
	maxHigh    = 0xf
	maxSeconds = 63 // also the minutes
	maxHours   = 31
	maxDay     = 511
	maxTac     = 7
	maxBits    = 8
	maxCount   = 127
	maxSent    = 0xffff
	maxLeft    = 160
	maxDiv     = 2047
	maxStep    = 7
	maxLevel   = 15
	maxWait    = 7
	maxPitch   = 2047
	maxSlide   = 8
)

// The bits that can be set of bytes some of whose bits cannot.
const (
	selectBits  = 0x30
	controlBits = 0x81
)

// heldBits are the bits that can be set of the latched registers.
var heldBits = [5]byte{0x3f, 0x3f, 0x1f, 0xff, 0xc1}

// maxLengths are the maximum lengths of the channels.
var maxLengths = [4]int{64, 64, 256, 64}

// numberRoom is about how many bytes the numbers of a state take.
const numberRoom = 256

// Encode returns the state of the machine.
func (m *Machine) Encode() []byte {
	if m.none() {
		return nil
	}
	video := m.video.Encode()
	room := numberRoom + len(m.ram) + workBytes + highBytes + len(video)
	c := coder{bytes: make([]byte, 0, room)}
	// A copy, as passing through the coder sets each part anew.
	s := m.state
	s.pass(&c)
	return append(c.bytes, video...)
}

// Decode lets the machine take over an encoded state.
func (m *Machine) Decode(b []byte) api.Errno {
	if m.none() {
		return api.ErrKind
	}
	if len(b) != len(m.Encode()) {
		return api.ErrSize
	}
	next := m.state
	next.ram = make([]byte, len(m.ram))
	c := coder{bytes: b, takes: true}
	next.pass(&c)
	// The unit comes last: what it has taken over, it cannot give back.
	if c.wrong || m.video.Decode(c.bytes) != api.OK {
		return api.ErrKind
	}
	m.state = next
	return api.OK
}

// coder is what the parts of a state pass through, in one order for both
// directions: their bytes are added to those of the coder, or replaced by them.
type coder struct {
	bytes []byte
	takes bool
	wrong bool
}

// pass adds the bytes of b, or replaces them by the next ones.
func (c *coder) pass(b []byte) {
	if c.takes {
		c.bytes = c.bytes[copy(b, c.bytes):]
	} else {
		c.bytes = append(c.bytes, b...)
	}
}

// check notes whether something holds that does for all states.
func (c *coder) check(holds bool) { c.wrong = c.wrong || !holds }

// flag passes a boolean.
func (c *coder) flag(at *bool) {
	var x byte
	if *at {
		x = 1
	}
	number(c, &x, 1)
	*at = x != 0
}

// masked passes a byte of which only some bits can be set.
func (c *coder) masked(at *byte, mask byte) {
	number(c, at, maxByte)
	c.check(*at&^mask == 0)
}

// number passes a number from 0 to most, the lowest byte first.
func number[N byte | uint16 | int | uint64](c *coder, at *N, most N) {
	var b [8]byte
	size := (bits.Len64(uint64(most)) + 7) / 8
	for i := range size {
		b[i] = byte(uint64(*at) >> (8 * i))
	}
	c.pass(b[:size])
	var x uint64
	for i := range size {
		x |= uint64(b[i]) << (8 * i)
	}
	*at = N(x)
	c.check(x <= uint64(most))
}

// pass passes all parts of a state.
func (s *state) pass(c *coder) {
	s.passProcessor(c)
	s.passBanks(c)
	passClock(c, &s.clock)
	s.passTimer(c)
	c.masked(&s.pad.Select, selectBits)
	number(c, &s.pad.Down, maxByte)
	passPort(c, &s.port)
	number(c, &s.copier.Page, maxByte)
	number(c, &s.copier.Left, maxLeft)
	passBoard(c, &s.board)
	c.masked(&s.flags, allFlags)
	number(c, &s.enabled, maxByte)
	number(c, &s.steps, math.MaxUint64)
	number(c, &s.cycles, math.MaxUint64)
	c.pass(s.ram)
	c.pass(s.work[:])
	c.pass(s.high[:])
}

// passProcessor passes the state of the processor.
func (s *state) passProcessor(c *coder) {
	p := &s.processor
	b := p.R.Encode()
	c.pass(b)
	r, e := regs.Decode(b)
	c.check(e == api.OK)
	p.R = r
	c.flag(&p.IME)
	c.flag(&p.Soon)
	c.flag(&p.Halt)
	c.flag(&p.Stop)
}

// passBanks passes what of the map the cartridge does not determine.
func (s *state) passBanks(c *coder) {
	m := &s.banks
	c.flag(&m.On)
	c.flag(&m.Mode)
	number(c, &m.Low, maxLow)
	number(c, &m.High, maxHigh)
	number(c, &m.Last, maxByte)
}

// passTimer passes the timer.
func (s *state) passTimer(c *coder) {
	t := &s.timer
	number(c, &t.Count, math.MaxUint16)
	number(c, &t.Tima, maxByte)
	number(c, &t.Tma, maxByte)
	number(c, &t.Tac, maxTac)
	c.flag(&t.Over)
}

// passClock passes a clock.
func passClock(c *coder, k *clock.Clock) {
	number(c, &k.S, maxSeconds)
	number(c, &k.M, maxSeconds)
	number(c, &k.H, maxHours)
	number(c, &k.Day, maxDay)
	number(c, &k.Sub, clock.Second-1)
	c.flag(&k.Halt)
	c.flag(&k.Carry)
	for part := range k.Held {
		c.masked(&k.Held[part], heldBits[part])
	}
}

// passPort passes a serial port.
func passPort(c *coder, p *serial.Port) {
	number(c, &p.Data, maxByte)
	c.masked(&p.Control, controlBits)
	number(c, &p.Last, maxByte)
	number(c, &p.Bits, maxBits)
	number(c, &p.Count, maxCount)
	number(c, &p.Sent, maxSent)
}

// passBoard passes a sound board.
func passBoard(c *coder, b *sound.Board) {
	c.pass(b.Regs[:])
	c.flag(&b.On)
	number(c, &b.Div, maxDiv)
	number(c, &b.Step, maxStep)
	for n := range b.Voices {
		v := &b.Voices[n]
		c.flag(&v.On)
		number(c, &v.Length, maxLengths[n])
		number(c, &v.Level, maxLevel)
		number(c, &v.Wait, maxWait)
	}
	number(c, &b.Pitch, maxPitch)
	number(c, &b.Slide, maxSlide)
	c.flag(&b.Slides)
}
