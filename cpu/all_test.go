package cpu

import (
	"slices"
	"testing"

	"retrograde/regs"
)

// The tests of this file go through all instructions, in many states.

// numbers makes numbers that look like random ones, the same in each test.
type numbers uint64

// next returns a number below n.
func (x *numbers) next(n int) int {
	*x = *x*6364136223846793005 + 1442695040888963407
	return int(uint64(*x) >> 33 % uint64(n))
}

// octet returns a byte, often one at which something changes.
func (x *numbers) octet() byte {
	edges := []byte{0x00, 0x01, 0x09, 0x0f, 0x10, 0x7f, 0x80, 0x99, 0x9a, 0xf0, 0xff}
	if x.next(2) == 0 {
		return edges[x.next(len(edges))]
	}
	return byte(x.next(256))
}

// pair returns a word.
func (x *numbers) pair() uint16 { return uint16(x.octet())<<8 | uint16(x.octet()) }

// state returns any state, in which the processor seldom stands still.
func (x *numbers) state() State {
	s := stateOf(x.next(8))
	s.Stop = x.next(16) == 0
	s.R = regs.Regs{
		A: x.octet(), F: x.octet(), B: x.octet(), C: x.octet(), D: x.octet(), E: x.octet(), H: x.octet(), L: x.octet(),
		SP: x.pair(), PC: x.pair(),
	}
	return s
}

// fill sets all bytes of memory.
func (b *recorder) fill(x *numbers) {
	for i := range b.mem {
		b.mem[i] = x.octet()
	}
}

// TestAllAgainstModel: all instructions do what the model does, in the same cycles.
func TestAllAgainstModel(t *testing.T) {
	x := numbers(1)
	first, second := &recorder{}, &recorder{}
	first.fill(&x)
	second.mem = first.mem
	for n := range 512 * 400 {
		s := x.state()
		code := []byte{byte(n), x.octet(), x.octet()}
		if n/256%2 == 1 {
			code = []byte{0xcb, byte(n)}
		}
		pending := byte(x.next(64))
		if pending > 31 {
			pending = 0
		}
		for _, b := range []*recorder{first, second} {
			b.put(s.R.PC, code...)
			b.pending, b.events = pending, b.events[:0]
		}
		m := &model{s: s, bus: second}
		want := m.step()
		got, did := Step(table, s, first)
		if got != m.s || did != want || !slices.Equal(first.events, second.events) {
			t.Fatalf("% x, pending %05b, %+v:\n%+v, %+v, %s, want\n%+v, %+v, %s",
				code, pending, s, got, did, first.log(), m.s, want, second.log())
		}
	}
	if first.mem != second.mem {
		t.Error("the memory differs")
	}
}

// TestAllInRuns: many steps in a row, each from the state and the memory that
// the one before it left.
func TestAllInRuns(t *testing.T) {
	x := numbers(2)
	for range 40 {
		first, second := &recorder{}, &recorder{}
		first.fill(&x)
		second.mem = first.mem
		s := x.state()
		m := &model{s: s, bus: second}
		for i := range 3000 {
			pending := byte(0)
			if x.next(8) == 0 {
				pending = byte(x.next(32))
			}
			// A Bad instruction would be executed for ever.
			if i%50 == 49 {
				s.R.PC = x.pair()
				m.s.R.PC = s.R.PC
			}
			first.pending, second.pending = pending, pending
			first.events, second.events = first.events[:0], second.events[:0]
			var did Did
			s, did = Step(table, s, first)
			want := m.step()
			if s != m.s || did != want || !slices.Equal(first.events, second.events) {
				t.Fatalf("step %d: %+v, %+v, %s, want\n%+v, %+v, %s", i, s, did, first.log(), m.s, want, second.log())
			}
		}
		if first.mem != second.mem {
			t.Fatal("the memory differs")
		}
	}
}

// durations are the cycles of the instructions by their first byte, and
// longer those of them whose condition holds.
var (
	durations = []string{
		"1322112152221121", "2322112132221121", "2322112122221121", "2322333122221121",
		"1111112111111121", "1111112111111121", "1111112111111121", "2222221211111121",
		"1111112111111121", "1111112111111121", "1111112111111121", "1111112111111121",
		"2334342424323624", "2331342424313124", "3321142441411124", "3321142432411124",
	}
	longer = map[int]int{
		0x20: 3, 0x28: 3, 0x30: 3, 0x38: 3,
		0xc0: 5, 0xc8: 5, 0xd0: 5, 0xd8: 5,
		0xc2: 4, 0xca: 4, 0xd2: 4, 0xda: 4,
		0xc4: 6, 0xcc: 6, 0xd4: 6, 0xdc: 6,
	}
)

// duration returns the cycles of an instruction.
func duration(code, second byte, taken bool) int {
	n, conditional := longer[int(code)]
	switch {
	case conditional && taken:
		return n
	case code == 0xcb && second%8 == 6:
		if second/64 == 1 {
			return 3
		}
		return 4
	}
	return int(durations[code/16][code%16] - '0')
}

func TestAllDurations(t *testing.T) {
	b := &recorder{}
	for code := range 256 {
		for second := range 256 {
			for _, f := range []byte{0x00, 0x10, 0x80, 0x90} {
				b.put(0x100, byte(code), byte(second))
				b.events = b.events[:0]
				_, did := Step(table, State{R: with(setF(f))}, b)
				if want := duration(byte(code), byte(second), did.Taken); b.cycles() != want {
					t.Errorf("%02x %02x: %s, want %d cycles", code, second, b.log(), want)
				}
			}
		}
	}
}

// without returns memory that differs from mem but for the bytes that were
// fetched or read.
func without(mem [65536]byte, events []event) [65536]byte {
	other := mem
	for i := range other {
		other[i] ^= 0xff
	}
	for _, e := range events {
		if e.what == fetched || e.what == read {
			other[e.addr] = mem[e.addr]
		}
	}
	return other
}

// TestAllWithoutOtherBytes: only bytes that were fetched or read count.
func TestAllWithoutOtherBytes(t *testing.T) {
	x := numbers(3)
	first, second := &recorder{}, &recorder{}
	first.fill(&x)
	for n := range 512 * 4 {
		s := x.state()
		s.Stop, s.Halt, s.IME = false, false, false
		code := []byte{byte(n), x.octet(), x.octet()}
		if n/256%2 == 1 {
			code = []byte{0xcb, byte(n)}
		}
		first.put(s.R.PC, code...)
		before := first.mem
		first.events, second.events = first.events[:0], second.events[:0]
		got, did := Step(table, s, first)
		second.mem = without(before, first.events)
		again, didAgain := Step(table, s, second)
		if again != got || didAgain != did || !slices.Equal(first.events, second.events) {
			t.Fatalf("% x: %+v, %+v, then %+v, %+v", code, got, did, again, didAgain)
		}
	}
}

// TestAllFlags: after a step that changes F, its lower four bits are 0.
func TestAllFlags(t *testing.T) {
	x := numbers(4)
	b := &recorder{}
	b.fill(&x)
	for n := range 512 * 40 {
		s := x.state()
		code := []byte{byte(n), x.octet(), x.octet()}
		if n/256%2 == 1 {
			code = []byte{0xcb, byte(n)}
		}
		b.put(s.R.PC, code...)
		b.events = b.events[:0]
		if got, _ := Step(table, s, b); got.R.F != s.R.F && got.R.F%16 != 0 {
			t.Fatalf("% x with F %02x: F %02x", code, s.R.F, got.R.F)
		}
	}
}
