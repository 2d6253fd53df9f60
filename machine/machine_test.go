package machine

import (
	"fmt"
	"math"
	"slices"
	"strings"
	"testing"

	"retrograde/api"
	"retrograde/cpu"
	"retrograde/header"
	"retrograde/joypad"
	"retrograde/mbc"
	"retrograde/ops"
	"retrograde/ppu"
	"retrograde/regs"
)

// Mappers, by the byte at 147.
const (
	plain     = 0x00 // kind 0
	banked    = 0x03 // kind 1
	contained = 0x06 // kind 2
	clocked   = 0x10 // kind 3 with a clock
	unclocked = 0x13 // kind 3 without one
	wide      = 0x1b // kind 5
)

// mappers are those above.
func mappers() []byte { return []byte{plain, banked, contained, clocked, unclocked, wide} }

// romByte returns what cartridges of these tests have at a place.
func romByte(at int) byte { return byte(at*7 + at/0x4000*41 + at/0x100*3) }

// cart returns a cartridge with a mapper and the bytes that select its sizes. Its
// bytes tell their places.
func cart(mapper, banks, ram byte) []byte {
	rom := make([]byte, 0x8000<<banks)
	for at := range rom {
		rom[at] = romByte(at)
	}
	rom[0x147], rom[0x148], rom[0x149] = mapper, banks, ram
	rom[0x14d] = header.Check(rom)
	return rom
}

// build returns a machine with a cartridge and a plan.
func build(t *testing.T, rom []byte, plan joypad.Plan) *Machine {
	t.Helper()
	m, e := New(rom, plan)
	if e != api.OK || m == nil {
		t.Fatalf("New = %v, %d", m, e)
	}
	return m
}

// with returns a machine with a mapper, 4 ROM banks and four RAM banks.
func with(t *testing.T, mapper byte) *Machine {
	t.Helper()
	return build(t, cart(mapper, 1, 3), nil)
}

// running returns a machine that is at c000, where its code is, with another
// value in each register.
func running(t *testing.T, code ...byte) *Machine {
	t.Helper()
	m := with(t, plain)
	copy(m.work[:], code)
	m.processor.R = regs.Regs{A: 0x12, B: 0x23, C: 0x83, D: 0xc4, E: 0x56, H: 0xc1, L: 0x67, SP: 0xdffe, PC: 0xc000}
	return m
}

// text returns accesses as letters, each with its address and its byte.
func text(accesses []api.Access) string {
	var words []string
	for _, a := range accesses {
		switch {
		case a == api.Access{}:
			words = append(words, "I")
		case a.Kind >= 1 && a.Kind <= 3:
			words = append(words, fmt.Sprintf("%c%04x=%02x", "RWF"[a.Kind-1], a.Addr, a.Value))
		default:
			words = append(words, fmt.Sprint(a))
		}
	}
	return strings.Join(words, " ")
}

// isStep checks what a step did and its accesses, and that it is counted.
func isStep(t *testing.T, m *Machine, what int, want string) {
	t.Helper()
	steps, cycles, at := m.Steps(), m.Cycles(), m.State().R.PC
	did, accesses := m.Step()
	if did.What != what || did.At != at || text(accesses) != want {
		t.Errorf("Step at %04x: %+v, %s, want %d, %s", at, did, text(accesses), what, want)
	}
	if m.Steps() != steps+1 || m.Cycles() != cycles+uint64(len(accesses)) {
		t.Errorf("after a step with %d accesses: %d steps and %d cycles more", len(accesses), m.Steps()-steps, m.Cycles()-cycles)
	}
}

// isPeek checks the byte at an address.
func isPeek(t *testing.T, m *Machine, addr uint16, want byte) {
	t.Helper()
	if got := m.Peek(addr); got != want {
		t.Errorf("Peek(%04x) = %02x, want %02x", addr, got, want)
	}
}

func TestExample(t *testing.T) {
	rom := cart(plain, 0, 0)
	copy(rom[0x100:], []byte{0x3e, 0x12})
	m := build(t, rom, nil)
	did, accesses := m.Step()
	want := cpu.Did{What: cpu.Ran, At: 0x100, Op: ops.Op{Kind: ops.MoveN, X: 7, Size: 2, N: 0x12}, Taken: true}
	if did != want || text(accesses) != "F0100=3e F0101=12" {
		t.Errorf("Step = %+v, %s", did, text(accesses))
	}
	if m.State().R.A != 0x12 || m.Cycles() != 2 || m.Steps() != 1 {
		t.Errorf("A %02x, %d cycles, %d steps", m.State().R.A, m.Cycles(), m.Steps())
	}
}

// TestNewErrors: the errors of layer 5, and no machine with them.
func TestNewErrors(t *testing.T) {
	change := func(at int, x byte) []byte {
		rom := cart(plain, 0, 0)
		rom[at] = x
		if at != 0x14d {
			rom[0x14d] = header.Check(rom)
		}
		return rom
	}
	whole := cart(plain, 0, 0)
	for _, x := range []struct {
		rom  []byte
		want api.Errno
	}{
		{nil, api.ErrShort}, {[]byte{}, api.ErrShort}, {whole[:0x14f], api.ErrShort},
		{change(0x14d, ^header.Check(whole)), api.ErrSum},
		{change(0x147, 4), api.ErrKind}, {change(0x147, 0xff), api.ErrKind},
		{change(0x148, 9), api.ErrRange}, {change(0x149, 6), api.ErrRange},
		{change(0x148, 1), api.ErrSize}, {whole[:0x7fff], api.ErrSize}, {append(slices.Clone(whole), 0), api.ErrSize},
	} {
		if m, e := New(x.rom, joypad.Plan{{At: 0, Down: 1}}); m != nil || e != x.want {
			t.Errorf("New of %d bytes = %v, %d, want %d", len(x.rom), m, e, x.want)
		}
	}
}

// TestInitial: a machine before its first step, with each mapper.
func TestInitial(t *testing.T) {
	for _, mapper := range mappers() {
		rom := cart(mapper, 1, 3)
		m := build(t, rom, joypad.Plan{{At: 0, Down: 0xff}})
		want := cpu.State{R: regs.Regs{A: 1, F: 0xb0, B: 0, C: 0x13, D: 0, E: 0xd8, H: 1, L: 0x4d, SP: 0xfffe, PC: 0x100}}
		if m.State() != want {
			t.Errorf("State = %+v", m.State())
		}
		if m.Steps() != 0 || m.Cycles() != 0 {
			t.Errorf("%d steps, %d cycles", m.Steps(), m.Cycles())
		}
		head, _ := header.Parse(rom)
		if m.Header() != head || m.banks != mbc.New(head) {
			t.Errorf("Header = %+v, map %+v", m.Header(), m.banks)
		}
		if !slices.Equal(m.Video().Encode(), ppu.New().Encode()) {
			t.Error("Video is not as its package creates it")
		}
		for addr := range 0x10000 {
			isPeek(t, m, uint16(addr), initialByte(rom, uint16(addr)))
		}
	}
}

// initialByte returns what is at an address before the first step.
func initialByte(rom []byte, addr uint16) byte {
	ones := map[uint16]byte{
		0xff00: 0xcf, 0xff02: 0x7e, 0xff03: 0xff, 0xff07: 0xf8, 0xff0f: 0xe0, 0xff41: 0x80,
		0xff10: 0x80, 0xff11: 0x3f, 0xff13: 0xff, 0xff14: 0xbf, 0xff15: 0xff, 0xff16: 0x3f,
		0xff18: 0xff, 0xff19: 0xbf, 0xff1a: 0x7f, 0xff1b: 0xff, 0xff1c: 0x9f, 0xff1d: 0xff,
		0xff1e: 0xbf, 0xff1f: 0xff, 0xff20: 0xff, 0xff23: 0xbf, 0xff26: 0x70,
	}
	x, found := ones[addr]
	switch {
	case addr < 0x8000:
		return rom[addr]
	case addr >= 0xa000 && addr < 0xc000 && rom[0x147] != plain:
		return 0xff
	case found:
		return x
	case addr >= 0xfea0 && addr < 0xff00, addr >= 0xff08 && addr < 0xff0f:
		return 0xff
	case addr >= 0xff27 && addr < 0xff30, addr >= 0xff4c && addr < 0xff80:
		return 0xff
	}
	return 0
}

// TestAccesses: the cycles of steps of all kinds, in order.
func TestAccesses(t *testing.T) {
	for _, x := range []struct {
		code []byte
		want string
	}{
		{[]byte{0x00}, "Fc000=00"},
		{[]byte{0x3e, 0x99}, "Fc000=3e Fc001=99"},
		{[]byte{0x01, 0x99, 0x98}, "Fc000=01 Fc001=99 Fc002=98"},
		{[]byte{0xcb, 0x37}, "Fc000=cb Fc001=37"},
		{[]byte{0x7e}, "Fc000=7e Rc167=5a"},
		{[]byte{0x77}, "Fc000=77 Wc167=12"},
		{[]byte{0x36, 0x0f}, "Fc000=36 Fc001=0f Wc167=0f"},
		{[]byte{0x34}, "Fc000=34 Rc167=5a Wc167=5b"},
		{[]byte{0xcb, 0x36}, "Fc000=cb Fc001=36 Rc167=5a Wc167=a5"},
		{[]byte{0x03}, "Fc000=03 I"},
		{[]byte{0x18, 0x10}, "Fc000=18 Fc001=10 I"},
		{[]byte{0xf9}, "Fc000=f9 I"},
		{[]byte{0xe8, 0x01}, "Fc000=e8 Fc001=01 I I"},
		{[]byte{0xc5}, "Fc000=c5 I Wdffd=23 Wdffc=83"},
		{[]byte{0xc1}, "Fc000=c1 Rdffe=fe Rdfff=ff"},
		{[]byte{0xc9}, "Fc000=c9 Rdffe=fe Rdfff=ff I"},
		{[]byte{0xc0}, "Fc000=c0 I Rdffe=fe Rdfff=ff I"},
		{[]byte{0xcd, 0x34, 0x12}, "Fc000=cd Fc001=34 Fc002=12 I Wdffd=c0 Wdffc=03"},
		{[]byte{0x08, 0x00, 0xc2}, "Fc000=08 Fc001=00 Fc002=c2 Wc200=fe Wc201=df"},
		{[]byte{0xe2}, "Fc000=e2 Wff83=12"},
		{[]byte{0xf2}, "Fc000=f2 Rff83=77"},
		{[]byte{0xfa, 0x67, 0xe1}, "Fc000=fa Fc001=67 Fc002=e1 Re167=5a"},
		{[]byte{0xea, 0x34, 0x12}, "Fc000=ea Fc001=34 Fc002=12 W1234=12"},
		{[]byte{0xd3}, "Fc000=d3"},
	} {
		m := running(t, x.code...)
		m.work[0x167], m.work[0x1ffe], m.work[0x1fff], m.high[3] = 0x5a, 0xfe, 0xff, 0x77
		isStep(t, m, cpu.Ran, x.want)
	}
}

// TestEffects: what a step did is part of the machine after it.
func TestEffects(t *testing.T) {
	m := running(t, 0x77, 0x34, 0x7e, 0xc5, 0xd1)
	isStep(t, m, cpu.Ran, "Fc000=77 Wc167=12")
	isPeek(t, m, 0xc167, 0x12)
	isStep(t, m, cpu.Ran, "Fc001=34 Rc167=12 Wc167=13")
	isStep(t, m, cpu.Ran, "Fc002=7e Rc167=13")
	isStep(t, m, cpu.Ran, "Fc003=c5 I Wdffd=23 Wdffc=83")
	isStep(t, m, cpu.Ran, "Fc004=d1 Rdffc=83 Rdffd=23")
	r := m.State().R
	if r.A != 0x13 || r.D != 0x23 || r.E != 0x83 || r.SP != 0xdffe || r.PC != 0xc005 {
		t.Errorf("State = %+v", m.State())
	}
	if m.Steps() != 5 || m.Cycles() != 14 {
		t.Errorf("%d steps, %d cycles", m.Steps(), m.Cycles())
	}
}

// TestSleep: a step in which the processor waits takes a cycle.
func TestSleep(t *testing.T) {
	m := running(t, 0x76, 0x00, 0x10, 0x00, 0x00)
	isStep(t, m, cpu.Ran, "Fc000=76")
	for range 3 {
		isStep(t, m, cpu.Slept, "I")
	}
	m.flags, m.enabled = 0xff, 0xe0
	isStep(t, m, cpu.Slept, "I")
	m.flags, m.enabled = 0x02, 0x02
	isStep(t, m, cpu.Ran, "Fc001=00")
	isStep(t, m, cpu.Ran, "Fc002=10 Fc003=00")
	for range 3 {
		isStep(t, m, cpu.Slept, "I")
	}
	m.flags, m.enabled = 0x10, 0x10
	isStep(t, m, cpu.Slept, "I")
	isStep(t, m, cpu.Ran, "Fc004=00")
}

// TestDispatch: each interrupt that is requested and enabled is dispatched, the
// lowest one first, and only its request is taken back.
func TestDispatch(t *testing.T) {
	for flags := range 32 {
		for _, enabled := range []int{0, 1, 2, 4, 8, 16, 0x1f, 0x15, 0xe0, 0xff, 0x0a} {
			m := running(t, 0x00)
			m.processor.IME, m.flags, m.enabled = true, byte(flags), byte(enabled)
			both := flags & enabled & 0x1f
			if both == 0 {
				isStep(t, m, cpu.Ran, "Fc000=00")
				continue
			}
			n := 0
			for both>>n&1 == 0 {
				n++
			}
			did, accesses := m.Step()
			if did != (cpu.Did{What: cpu.Called, N: n, At: 0xc000}) || text(accesses) != "I I Wdffd=c0 Wdffc=00 I" {
				t.Errorf("flags %02x, enabled %02x: %+v, %s", flags, enabled, did, text(accesses))
			}
			if m.State().R.PC != uint16(0x40+8*n) || m.State().IME || m.flags != byte(flags&^(1<<n)) || m.enabled != byte(enabled) {
				t.Errorf("flags %02x, enabled %02x: %+v, %02x", flags, enabled, m.State(), m.flags)
			}
			isPeek(t, m, 0xff0f, 0xe0|byte(flags&^(1<<n)))
			if m.Steps() != 1 || m.Cycles() != 5 {
				t.Errorf("%d steps, %d cycles", m.Steps(), m.Cycles())
			}
		}
	}
}

// TestRequestedMeanwhile: an interrupt that is requested by a cycle of the
// dispatch of another one stays.
func TestRequestedMeanwhile(t *testing.T) {
	m := running(t, 0x00)
	m.processor.IME, m.flags, m.enabled = true, 0x01, 0xff
	m.timer.Over = true
	isStep(t, m, cpu.Called, "I I Wdffd=c0 Wdffc=00 I")
	if m.flags != 0x04 {
		t.Errorf("flags %02x", m.flags)
	}
	// The request of the same one, by the same cycles, is taken back with it.
	m = running(t, 0x00)
	m.processor.IME, m.flags, m.enabled = true, 0x04, 0xff
	m.timer.Over = true
	isStep(t, m, cpu.Called, "I I Wdffd=c0 Wdffc=00 I")
	if m.flags != 0 {
		t.Errorf("flags %02x", m.flags)
	}
}

// TestKeys: the keys of the plan are pressed by the step with their number.
func TestKeys(t *testing.T) {
	plan := joypad.Plan{{At: 6, Down: 0x24}, {At: 3, Down: 0x81}, {At: 5, Down: 0}, {At: 6, Down: 0x42}, {At: 1 << 40, Down: 0xff}}
	for _, x := range []struct {
		selected byte
		want     []byte
		requests []int
	}{
		{0x30, []byte{0xff, 0xff, 0xff, 0xff, 0xff, 0xff, 0xff, 0xff, 0xff}, nil},
		{0x20, []byte{0xef, 0xef, 0xef, 0xee, 0xee, 0xef, 0xed, 0xed, 0xed}, []int{3, 6}},
		{0x10, []byte{0xdf, 0xdf, 0xdf, 0xd7, 0xd7, 0xdf, 0xdb, 0xdb, 0xdb}, []int{3, 6}},
		{0x00, []byte{0xcf, 0xcf, 0xcf, 0xc6, 0xc6, 0xcf, 0xc9, 0xc9, 0xc9}, []int{3, 6}},
	} {
		m := build(t, cart(plain, 0, 0), plan)
		m.processor.R.PC = 0xc000
		m.pad.Select = x.selected
		for n, want := range x.want {
			m.flags = 0
			isStep(t, m, cpu.Ran, fmt.Sprintf("Fc%03x=00", n))
			isPeek(t, m, 0xff00, want)
			var flags byte
			if slices.Contains(x.requests, n) {
				flags = 0x10
			}
			if m.flags != flags {
				t.Errorf("selected %02x, step %d: flags %02x, want %02x", x.selected, n, m.flags, flags)
			}
		}
	}
}

// TestKeysFirst: keys are pressed before the step of the processor, whose first
// cycle sees them.
func TestKeysFirst(t *testing.T) {
	m := build(t, cart(plain, 0, 0), joypad.Plan{{At: 2, Down: 0x08}})
	m.processor.R.PC, m.processor.IME, m.enabled = 0xc000, true, 0x10
	isStep(t, m, cpu.Ran, "Fc000=00")
	isStep(t, m, cpu.Ran, "Fc001=00")
	isStep(t, m, cpu.Called, "I I Wfffd=c0 Wfffc=02 I")
	if m.State().R.PC != 0x60 || m.flags != 0 {
		t.Errorf("PC %04x, flags %02x", m.State().R.PC, m.flags)
	}
	m = build(t, cart(plain, 0, 0), joypad.Plan{{At: 0, Down: 0x08}})
	m.work[0], m.work[1], m.processor.R.PC = 0xf0, 0x00, 0xc000
	isStep(t, m, cpu.Ran, "Fc000=f0 Fc001=00 Rff00=c7")
	if m.flags != 0x10 {
		t.Errorf("flags %02x", m.flags)
	}
}

// TestKeyEndsStop: a key that is pressed lets a stopped processor go on after
// that step, if its interrupt is enabled.
func TestKeyEndsStop(t *testing.T) {
	for _, x := range []struct {
		enabled byte
		stopped bool
	}{{0x10, false}, {0x0f, true}} {
		m := build(t, cart(plain, 0, 0), joypad.Plan{{At: 2, Down: 0x80}})
		m.processor.R.PC, m.processor.Stop, m.enabled = 0xc000, true, x.enabled
		for n := range 3 {
			if !m.State().Stop {
				t.Errorf("not stopped before step %d", n)
			}
			isStep(t, m, cpu.Slept, "I")
		}
		if m.State().Stop != x.stopped || m.flags != 0x10 {
			t.Errorf("enabled %02x: %+v, flags %02x", x.enabled, m.State(), m.flags)
		}
	}
}

// TestKeepsOtherFlags: a key, and its absence, leave other requests as they are.
func TestKeepsOtherFlags(t *testing.T) {
	m := build(t, cart(plain, 0, 0), joypad.Plan{{At: 1, Down: 0x01}})
	m.processor.R.PC, m.flags = 0xc000, 0x0b
	isStep(t, m, cpu.Ran, "Fc000=00")
	if m.flags != 0x0b {
		t.Errorf("flags %02x", m.flags)
	}
	isStep(t, m, cpu.Ran, "Fc001=00")
	isStep(t, m, cpu.Ran, "Fc002=00")
	if m.flags != 0x1b {
		t.Errorf("flags %02x", m.flags)
	}
}

// TestGreatNumbers: the plan is asked for all 64 bits of the number of steps,
// and both numbers of a machine wrap round.
func TestGreatNumbers(t *testing.T) {
	m := build(t, cart(plain, 0, 0), joypad.Plan{{At: math.MaxUint64, Down: 0x03}, {At: 1 << 32, Down: 0x01}})
	m.processor.R.PC, m.steps, m.cycles = 0xc000, 1<<32-1, math.MaxUint64
	isStep(t, m, cpu.Ran, "Fc000=00")
	isPeek(t, m, 0xff00, 0xcf)
	isStep(t, m, cpu.Ran, "Fc001=00")
	isPeek(t, m, 0xff00, 0xce)
	if m.Steps() != 1<<32+1 || m.Cycles() != 1 {
		t.Errorf("%d steps, %d cycles", m.Steps(), m.Cycles())
	}
	m.steps = math.MaxUint64
	isStep(t, m, cpu.Ran, "Fc002=00")
	isPeek(t, m, 0xff00, 0xcc)
	isStep(t, m, cpu.Ran, "Fc003=00")
	isPeek(t, m, 0xff00, 0xcf)
	if m.Steps() != 1 {
		t.Errorf("%d steps", m.Steps())
	}
}

// TestParts: the parts of a machine are those of the moment.
func TestParts(t *testing.T) {
	m := running(t, 0x3e, 0x80, 0xe0, 0x40, 0xfb)
	video := m.Video()
	for range 3 {
		m.Step()
	}
	if m.Video() != video || video.Mode() != 2 || video.Dot() != 1 {
		t.Errorf("the unit is at cycle %d in mode %d", video.Dot(), video.Mode())
	}
	if s := m.State(); !s.Soon || s.R.A != 0x80 || s.R.PC != 0xc005 {
		t.Errorf("State = %+v", s)
	}
	if h := m.Header(); h.Kind != 0 || h.Banks != 4 || h.Ram != 0x8000 {
		t.Errorf("Header = %+v", h)
	}
}

// TestAccessesAreNew: no two lists of accesses share memory.
func TestAccessesAreNew(t *testing.T) {
	m := running(t, 0x3e, 0x12, 0x3e, 0x34)
	_, first := m.Step()
	first = append(first, api.Access{})
	_, second := m.Step()
	if text(first) != "Fc000=3e Fc001=12 I" || text(second) != "Fc002=3e Fc003=34" {
		t.Errorf("%s, then %s", text(first), text(second))
	}
}

// TestArguments: neither the cartridge nor the plan is changed.
func TestArguments(t *testing.T) {
	rom, plan := cart(banked, 1, 3), joypad.Plan{{At: 9, Down: 1}, {At: 2, Down: 2}}
	m := build(t, rom, plan)
	b := &bus{Machine: m}
	for addr := range 0x10000 {
		b.Write(uint16(addr), byte(addr))
	}
	for range 500 {
		m.Step()
	}
	if !slices.Equal(rom, cart(banked, 1, 3)) || !slices.Equal(plan, joypad.Plan{{At: 9, Down: 1}, {At: 2, Down: 2}}) {
		t.Error("an argument of New was changed")
	}
}

// TestNoMachine: a nil machine, and one that New did not return.
func TestNoMachine(t *testing.T) {
	for _, m := range []*Machine{nil, {}} {
		if did, accesses := m.Step(); did != (cpu.Did{}) || len(accesses) != 0 {
			t.Errorf("Step = %+v, %v", did, accesses)
		}
		for addr := range 0x10000 {
			if x, n := m.Peek(uint16(addr)), m.Bank(uint16(addr)); x != 0 || n != 0 {
				t.Errorf("Peek(%04x) = %d, Bank = %d", addr, x, n)
			}
		}
		if m.State() != (cpu.State{}) || m.Steps() != 0 || m.Cycles() != 0 || m.Header() != (header.Header{}) || m.Video() != nil {
			t.Error("a part is not its zero value")
		}
		if b := m.Encode(); len(b) != 0 {
			t.Errorf("Encode has %d bytes", len(b))
		}
		for _, b := range [][]byte{nil, {}, {0}, with(t, plain).Encode()} {
			if e := m.Decode(b); e != api.ErrKind {
				t.Errorf("Decode of %d bytes = %d", len(b), e)
			}
		}
	}
}
