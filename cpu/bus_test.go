package cpu

import (
	"fmt"
	"strings"

	"retrograde/ops"
	"retrograde/regs"
)

// table is the decoding table of all tests: what it was asked changes nothing.
var table = ops.New()

// event is a call of a method of the bus.
type event struct {
	what byte
	addr uint16
	x    byte
}

// The calls of a bus, as letters.
const (
	fetched = 'F'
	read    = 'R'
	wrote   = 'W'
	idled   = 'I'
	asked   = 'P'
	acked   = 'A'
)

// String returns F, R or W with the address (and W with the byte), I, P, or A
// with the number.
func (e event) String() string {
	switch e.what {
	case fetched, read:
		return fmt.Sprintf("%c%04x", e.what, e.addr)
	case wrote:
		return fmt.Sprintf("%c%04x=%02x", e.what, e.addr, e.x)
	case acked:
		return fmt.Sprintf("%c%d", e.what, e.addr)
	}
	return string(e.what)
}

// recorder is a bus with memory at all addresses, which records its calls.
type recorder struct {
	mem     [65536]byte
	pending byte
	events  []event
}

func (b *recorder) note(what byte, addr uint16, x byte) {
	b.events = append(b.events, event{what, addr, x})
}

func (b *recorder) Fetch(addr uint16) byte {
	b.note(fetched, addr, b.mem[addr])
	return b.mem[addr]
}

func (b *recorder) Read(addr uint16) byte {
	b.note(read, addr, b.mem[addr])
	return b.mem[addr]
}

func (b *recorder) Write(addr uint16, x byte) {
	b.note(wrote, addr, x)
	b.mem[addr] = x
}

func (b *recorder) Idle() { b.note(idled, 0, 0) }

func (b *recorder) Pending() byte {
	b.note(asked, 0, 0)
	return b.pending
}

func (b *recorder) Ack(n int) { b.note(acked, uint16(n), 0) }

// log returns the calls so far.
func (b *recorder) log() string {
	var words []string
	for _, e := range b.events {
		words = append(words, e.String())
	}
	return strings.Join(words, " ")
}

// cycles returns how many of the calls so far took a cycle.
func (b *recorder) cycles() int {
	n := 0
	for _, e := range b.events {
		if e.what != asked && e.what != acked {
			n++
		}
	}
	return n
}

// put sets the bytes from an address on.
func (b *recorder) put(addr uint16, code ...byte) {
	for i, x := range code {
		b.mem[addr+uint16(i)] = x
	}
}

// sample has another value in each register.
var sample = regs.Regs{
	A: 0x12, B: 0x23, C: 0x34, D: 0x45, E: 0x56, H: 0xc0, L: 0x67, SP: 0xd078, PC: 0x100,
}

// with returns sample after some changes.
func with(changes ...func(r *regs.Regs)) regs.Regs {
	r := sample
	for _, change := range changes {
		change(&r)
	}
	return r
}

// setF returns the change that sets F.
func setF(f byte) func(r *regs.Regs) {
	return func(r *regs.Regs) { r.F = f }
}

// setPC returns the change that sets the PC.
func setPC(x uint16) func(r *regs.Regs) {
	return func(r *regs.Regs) { r.PC = x }
}

// setSP returns the change that sets SP.
func setSP(x uint16) func(r *regs.Regs) {
	return func(r *regs.Regs) { r.SP = x }
}

// setHL returns the change that sets H and L.
func setHL(x uint16) func(r *regs.Regs) {
	return func(r *regs.Regs) { r.H, r.L = byte(x>>8), byte(x) }
}

// setA returns the change that sets A.
func setA(x byte) func(r *regs.Regs) {
	return func(r *regs.Regs) { r.A = x }
}
