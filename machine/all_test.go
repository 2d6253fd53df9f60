package machine

import (
	"bytes"
	"slices"
	"testing"

	"retrograde/api"
	"retrograde/clock"
	"retrograde/cpu"
	"retrograde/dma"
	"retrograde/header"
	"retrograde/joypad"
	"retrograde/mbc"
	"retrograde/ops"
	"retrograde/ppu"
	"retrograde/serial"
	"retrograde/sound"
	"retrograde/timer"
)

// The tests of this file hold a machine against a second reading of the
// document: a table of rows, with the memories at their addresses.

// model is the second reading. Its bytes are the work RAM from c000 on, the
// interrupt flags, the high RAM and the interrupt enable register.
type model struct {
	rom           []byte
	plan          joypad.Plan
	head          header.Header
	processor     cpu.State
	banks         mbc.Map
	ram           []byte
	clock         clock.Clock
	timer         timer.Timer
	pad           joypad.Pad
	port          serial.Port
	copier        dma.Copier
	board         sound.Board
	unit          *ppu.Unit
	bytes         [0x10000]byte
	steps, cycles uint64
	log           []api.Access
}

// table is the decoding table of all models.
var table = ops.New()

// modelOf returns the model of a machine.
func modelOf(m *Machine) *model {
	o := &model{
		rom: m.rom, plan: m.plan, head: m.cart, processor: m.processor, banks: m.banks, ram: slices.Clone(m.ram),
		clock: m.clock, timer: m.timer, pad: m.pad, port: m.port, copier: m.copier, board: m.board,
		unit: ppu.New(), steps: m.steps, cycles: m.cycles,
	}
	o.unit.Decode(m.video.Encode())
	copy(o.bytes[0xc000:], m.work[:])
	copy(o.bytes[0xff80:], m.high[:])
	o.bytes[0xff0f], o.bytes[0xffff] = m.flags, m.enabled
	return o
}

// row is a row of the table of the address space.
type row struct {
	from, to uint16
	get      func(o *model, addr uint16) byte
	put      func(o *model, addr uint16, x byte)
}

// rows are all of them; an address belongs to the first that has it.
func rows() []row {
	getUnit := func(o *model, addr uint16) byte { return o.unit.Peek(addr) }
	getByte := func(o *model, addr uint16) byte { return o.bytes[addr] }
	putByte := func(o *model, addr uint16, x byte) { o.bytes[addr] = x }
	putUnit := func(o *model, addr uint16, x byte) {
		if o.unit.Write(addr, x)&ppu.Stat != 0 {
			o.ask(1, true)
		}
	}
	return []row{
		{0x0000, 0x7fff, func(o *model, addr uint16) byte { return o.rom[o.banks.Rom(addr)] }, (*model).putBanks},
		{0x8000, 0x9fff, getUnit, putUnit},
		{0xa000, 0xbfff, (*model).getCart, (*model).putCart},
		{0xc000, 0xdfff, getByte, putByte},
		{0xe000, 0xfdff, func(o *model, addr uint16) byte { return o.bytes[addr-0x2000] }, func(o *model, addr uint16, x byte) { o.bytes[addr-0x2000] = x }},
		{0xfe00, 0xfe9f, getUnit, putUnit},
		{0xff00, 0xff00, func(o *model, _ uint16) byte { return o.pad.Read() }, func(o *model, _ uint16, x byte) {
			pad, asked := o.pad.Write(x)
			o.pad = pad
			o.ask(4, asked)
		}},
		{0xff01, 0xff02, func(o *model, addr uint16) byte { return o.port.Read(int(addr) - 0xff01) }, func(o *model, addr uint16, x byte) { o.port = o.port.Write(int(addr)-0xff01, x) }},
		{0xff04, 0xff07, func(o *model, addr uint16) byte { return o.timer.Read(int(addr) - 0xff04) }, func(o *model, addr uint16, x byte) { o.timer = o.timer.Write(int(addr)-0xff04, x) }},
		{0xff0f, 0xff0f, func(o *model, addr uint16) byte { return o.bytes[addr]%32 + 224 }, func(o *model, addr uint16, x byte) { o.bytes[addr] = x % 32 }},
		{0xff10, 0xff3f, func(o *model, addr uint16) byte { return o.board.Read(int(addr) - 0xff10) }, func(o *model, addr uint16, x byte) { o.board = o.board.Write(int(addr)-0xff10, x) }},
		{0xff46, 0xff46, func(o *model, _ uint16) byte { return o.copier.Page }, func(o *model, _ uint16, x byte) { o.copier = o.copier.Write(x) }},
		{0xff40, 0xff4b, getUnit, putUnit},
		{0xff80, 0xfffe, getByte, putByte},
		{0xffff, 0xffff, getByte, putByte},
		{0x0000, 0xffff, func(*model, uint16) byte { return 255 }, func(*model, uint16, byte) {}},
	}
}

// rowOf are the numbers of the rows, by address.
var rowOf = func() (numbers [0x10000]int) {
	for addr := range numbers {
		numbers[addr] = slices.IndexFunc(rows(), func(r row) bool { return int(r.from) <= addr && addr <= int(r.to) })
	}
	return numbers
}()

// allRows are the rows, made once.
var allRows = rows()

// ask sets a bit of the interrupt flags.
func (o *model) ask(bit int, asked bool) {
	if asked {
		o.bytes[0xff0f] |= 1 << bit
	}
}

// putBanks is a write to the map.
func (o *model) putBanks(addr uint16, x byte) {
	banks, latch := o.banks.Write(addr, x)
	o.banks = banks
	if latch {
		o.clock = o.clock.Hold()
	}
}

// getCart reads the clock or the RAM of the cartridge.
func (o *model) getCart(addr uint16) byte {
	if n, ok := o.banks.Clock(); ok {
		return o.clock.Held[n]
	}
	n, ok := o.banks.At(addr)
	if !ok {
		return 255
	}
	if o.head.Kind == 2 {
		return o.ram[n]%16 + 240
	}
	return o.ram[n]
}

// putCart writes the clock or the RAM of the cartridge.
func (o *model) putCart(addr uint16, x byte) {
	n, ok := o.banks.Clock()
	at, found := o.banks.At(addr)
	if ok {
		o.clock = o.clock.Write(n, x)
	} else if found {
		o.ram[at] = x
	}
}

// peek is Peek.
func (o *model) peek(addr uint16) byte { return allRows[rowOf[addr]].get(o, addr) }

// pass is a cycle of a kind.
func (o *model) pass(kind int, addr uint16, x byte) byte {
	o.cycles++
	timer, asked := o.timer.Tick()
	o.timer = timer
	o.ask(2, asked)
	port, asked := o.port.Tick()
	o.port = port
	o.ask(3, asked)
	copier, from, n, copies := o.copier.Tick()
	o.copier = copier
	if copies {
		o.unit.Sprite(n, o.peek(from))
	}
	o.board = o.board.Tick()
	requests := o.unit.Tick()
	o.ask(0, requests&ppu.Blank != 0)
	o.ask(1, requests&ppu.Stat != 0)
	if o.head.Clock {
		o.clock = o.clock.Tick(1)
	}
	open := !o.copier.Busy() || addr >= 0xff00
	switch {
	case kind == api.Write && open:
		allRows[rowOf[addr]].put(o, addr, x)
	case kind != api.Write && kind != api.Idle && !open:
		x = 255
	case kind != api.Write && kind != api.Idle:
		x = o.peek(addr)
		if addr>>13 == 4 || addr>>8 == 0xfe {
			x = o.unit.Read(addr)
		}
	}
	o.log = append(o.log, api.Access{Kind: kind, Addr: addr, Value: x})
	return x
}

func (o *model) Fetch(addr uint16) byte    { return o.pass(api.Fetch, addr, 0) }
func (o *model) Read(addr uint16) byte     { return o.pass(api.Read, addr, 0) }
func (o *model) Write(addr uint16, x byte) { o.pass(api.Write, addr, x) }
func (o *model) Idle()                     { o.pass(api.Idle, 0, 0) }
func (o *model) Pending() byte             { return o.bytes[0xff0f] & o.bytes[0xffff] % 32 }
func (o *model) Ack(n int)                 { o.bytes[0xff0f] &^= 1 << n }

// step is Step.
func (o *model) step() (cpu.Did, []api.Access) {
	pad, asked := o.pad.Press(o.plan.At(o.steps))
	o.pad = pad
	o.ask(4, asked)
	o.log = nil
	s, did := cpu.Step(table, o.processor, o)
	o.processor = s
	o.steps++
	return did, o.log
}

// isModel checks that a machine is in the state of a model.
func isModel(t *testing.T, m *Machine, o *model) {
	t.Helper()
	if m.State() != o.processor || m.Steps() != o.steps || m.Cycles() != o.cycles {
		t.Fatalf("%+v after %d steps, %d cycles, want %+v, %d, %d", m.State(), m.Steps(), m.Cycles(), o.processor, o.steps, o.cycles)
	}
	if m.banks != o.banks || m.clock != o.clock || m.timer != o.timer || m.pad != o.pad || m.port != o.port || m.copier != o.copier || m.board != o.board {
		t.Fatalf("another device after %d steps", m.Steps())
	}
	if m.flags != o.bytes[0xff0f] || m.enabled != o.bytes[0xffff] {
		t.Fatalf("flags %02x, enabled %02x, want %02x, %02x", m.flags, m.enabled, o.bytes[0xff0f], o.bytes[0xffff])
	}
	if !bytes.Equal(m.ram, o.ram) || !bytes.Equal(m.work[:], o.bytes[0xc000:0xe000]) || !bytes.Equal(m.high[:], o.bytes[0xff80:0xffff]) {
		t.Fatalf("other memory after %d steps", m.Steps())
	}
	if m.Video().Line() != o.unit.Line() || m.Video().Dot() != o.unit.Dot() {
		t.Fatalf("the unit is at %d, %d", m.Video().Line(), m.Video().Dot())
	}
}

// isEverywhere checks what is at each address, and the whole unit.
func isEverywhere(t *testing.T, m *Machine, o *model) {
	t.Helper()
	for addr := range 0x10000 {
		if got, want := m.Peek(uint16(addr)), o.peek(uint16(addr)); got != want {
			t.Errorf("Peek(%04x) = %02x, want %02x", addr, got, want)
		}
	}
	if !bytes.Equal(m.Video().Encode(), o.unit.Encode()) {
		t.Fatalf("another unit after %d steps", m.Steps())
	}
}

// anyCode returns instructions most of which access memory, also registers.
func anyCode(number func(below int) int, size int) []byte {
	var code []byte
	pages := []byte{0x00, 0x20, 0x40, 0x60, 0x7f, 0x80, 0x9f, 0xa0, 0xbf, 0xc0, 0xdf, 0xe0, 0xfd, 0xfe, 0xff}
	plain := []byte{
		0x02, 0x12, 0x22, 0x32, 0x0a, 0x1a, 0x2a, 0x3a, 0x34, 0x35, 0x46, 0x4e, 0x56, 0x5e, 0x66, 0x6e, 0x70, 0x71,
		0x77, 0x7e, 0x86, 0xc5, 0xd5, 0xc1, 0xe2, 0xf2, 0x03, 0x13, 0x23, 0xfb, 0xf3, 0x76, 0xc9, 0xd9, 0xff,
	}
	for len(code) < size {
		low, page := byte(number(256)), pages[number(len(pages))]
		switch number(10) {
		case 0, 1:
			code = append(code, 0xe0, anyRegister(number))
		case 2:
			code = append(code, 0xf0, anyRegister(number))
		case 3:
			code = append(code, 0x3e, low)
		case 4:
			code = append(code, 0xea, low, page)
		case 5:
			code = append(code, 0xfa, low, page)
		case 6:
			code = append(code, byte(0x01+number(4)*16), low, page)
		case 7:
			code = append(code, byte(number(256)))
		default:
			code = append(code, plain[number(len(plain))])
		}
	}
	return code[:size]
}

// anyRegister returns the lower byte of the address of a register, most often.
func anyRegister(number func(below int) int) byte {
	switch number(6) {
	case 0:
		return byte(number(256))
	case 1:
		return []byte{0x46, 0x0f, 0xff, 0x00, 0x02, 0x40, 0x41, 0x07}[number(8)]
	}
	return byte(number(0x4e))
}

// anyMachine returns a machine with a cartridge of some kind, in a state of any
// kind.
func anyMachine(t *testing.T, number func(below int) int, round int) *Machine {
	t.Helper()
	rom := cart(mappers()[round%6], byte(number(4)), byte(number(4)))
	copy(rom[0x150:], anyCode(number, len(rom)-0x150))
	copy(rom, anyCode(number, 0x134))
	var plan joypad.Plan
	for range number(30) {
		plan = append(plan, joypad.Change{At: uint64(number(200)), Down: byte(number(256))})
	}
	m := build(t, rom, plan)
	b := anyState(number, m.Header().Ram)
	zeroSteps(b)
	if e := m.Decode(b); e != api.OK {
		t.Fatalf("Decode = %d", e)
	}
	m.processor.R.PC = uint16(number(0x8000))
	if number(3) == 0 {
		m.processor.R.PC = uint16(0xc000 + number(0x3e00))
	}
	if number(2) == 0 {
		m.copier.Left = 0
	}
	if number(2) == 0 {
		m.video.Write(0xff40, byte(0x80|number(256)))
	}
	copy(m.work[:], anyCode(number, 0x2000))
	copy(m.high[:], anyCode(number, 0x7f))
	return m
}

// TestSecondReading: steps from states of all kinds.
func TestSecondReading(t *testing.T) {
	number := numbers(7)
	for round := range 500 {
		m := anyMachine(t, number, round)
		o := modelOf(m)
		for range 150 {
			did, accesses := m.Step()
			wantDid, want := o.step()
			if did != wantDid || !slices.Equal(accesses, want) {
				t.Fatalf("Step = %+v, %s, want %+v, %s", did, text(accesses), wantDid, text(want))
			}
			isModel(t, m, o)
		}
		isEverywhere(t, m, o)
	}
}

// TestEveryAccess: the processor's accesses to each address, in states of all
// kinds.
func TestEveryAccess(t *testing.T) {
	number := numbers(8)
	for round := range 24 {
		m := anyMachine(t, number, round)
		o := modelOf(m)
		for addr := range 0x10000 {
			b := cpuBus(m)
			at, x := uint16(addr), byte(number(256))
			if got, want := b.Read(at), o.Read(at); got != want {
				t.Fatalf("Read(%04x) = %02x, want %02x", at, got, want)
			}
			if got, want := b.Fetch(at), o.Fetch(at); got != want {
				t.Fatalf("Fetch(%04x) = %02x, want %02x", at, got, want)
			}
			b.Write(at, x)
			o.Write(at, x)
			o.log = nil
		}
		isModel(t, m, o)
		isEverywhere(t, m, o)
	}
}

// TestManySteps: a program that counts interrupts of all kinds, through several
// pictures.
func TestManySteps(t *testing.T) {
	for _, mapper := range mappers() {
		rom := cart(mapper, 0, 2)
		for n := range 5 {
			// Interrupt n: count it at c100 + n.
			copy(rom[0x40+8*n:], []byte{0x21, byte(n), 0xc1, 0x34, 0xd9})
		}
		copy(rom[0x100:], []byte{0x18, 0x4e})
		copy(rom[0x150:], []byte{
			0xaf, 0xe0, 0x00, 0x3e, 0x91, 0xe0, 0x40, 0x3e, 0x48, 0xe0, 0x41, 0x3e, 0x05, 0xe0, 0x07,
			0x3e, 0x1f, 0xe0, 0xff, 0xfb, 0x3e, 0x81, 0xe0, 0x02, 0x76, 0x18, 0xf9,
		})
		m := build(t, rom, joypad.Plan{{At: 500, Down: 1}, {At: 900, Down: 2}, {At: 901, Down: 0}})
		o := modelOf(m)
		for range 30000 {
			did, accesses := m.Step()
			wantDid, want := o.step()
			if did != wantDid || !slices.Equal(accesses, want) {
				t.Fatalf("Step = %+v, %s, want %+v, %s", did, text(accesses), wantDid, text(want))
			}
		}
		isModel(t, m, o)
		isEverywhere(t, m, o)
		for n := range 5 {
			if m.Peek(0xc100+uint16(n)) == 0 {
				t.Errorf("no interrupt %d", n)
			}
		}
	}
}
