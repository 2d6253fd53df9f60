package cpu

import (
	"fmt"
	"testing"

	"retrograde/api"
	"retrograde/ops"
	"retrograde/regs"
)

func TestExample(t *testing.T) {
	b := &recorder{}
	b.put(0x100, 0x3e, 0x12)
	s, did := Step(table, State{R: regs.Regs{PC: 0x100}}, b)
	if want := (State{R: regs.Regs{A: 0x12, PC: 0x102}}); s != want {
		t.Errorf("state %+v, want %+v", s, want)
	}
	if want := (Did{What: Ran, At: 0x100, Op: ops.Op{Kind: ops.MoveN, X: 7, Size: 2, N: 0x12}, Taken: true}); did != want {
		t.Errorf("did %+v, want %+v", did, want)
	}
	if log := b.log(); log != "P F0100 F0101" {
		t.Errorf("calls %s", log)
	}
}

func TestWhat(t *testing.T) {
	if Slept != 0 || Ran != 1 || Called != 2 {
		t.Errorf("Slept %d, Ran %d, Called %d", Slept, Ran, Called)
	}
}

// stateOf returns a state whose four booleans are the bits of n.
func stateOf(n int) State {
	return State{IME: n&1 != 0, Soon: n&2 != 0, Halt: n&4 != 0, Stop: n&8 != 0}
}

func TestStopped(t *testing.T) {
	for n := range 8 {
		for pending := range 32 {
			s := stateOf(n)
			s.Stop, s.R = true, sample
			b := &recorder{pending: byte(pending)}
			got, did := Step(table, s, b)
			want := s
			want.Stop = pending < 16
			if got != want || did != (Did{What: Slept, At: 0x100}) || b.log() != "I P" {
				t.Errorf("%+v, pending %05b: %+v, %+v, %s", s, pending, got, did, b.log())
			}
		}
	}
}

func TestHalted(t *testing.T) {
	for _, n := range []int{4, 5, 6, 7} {
		s := stateOf(n)
		s.R = sample
		b := &recorder{}
		got, did := Step(table, s, b)
		if got != s || did != (Did{What: Slept, At: 0x100}) || b.log() != "P I" {
			t.Errorf("%+v: %+v, %+v, %s", s, got, did, b.log())
		}
	}
}

// TestHaltEnds: without IME, an interrupt ends the waiting, and an instruction follows.
func TestHaltEnds(t *testing.T) {
	for pending := 1; pending < 32; pending++ {
		b := &recorder{pending: byte(pending)}
		got, did := Step(table, State{R: sample, Halt: true}, b)
		want := State{R: with(setPC(0x101))}
		if got != want || did != (Did{What: Ran, At: 0x100, Op: ops.Op{Kind: ops.Nop, Size: 1}, Taken: true}) || b.log() != "P F0100" {
			t.Errorf("pending %05b: %+v, %+v, %s", pending, got, did, b.log())
		}
	}
}

func TestInterrupt(t *testing.T) {
	// The lowest of the bits of Pending, by Pending.
	lowest := []int{
		-1, 0, 1, 0, 2, 0, 1, 0, 3, 0, 1, 0, 2, 0, 1, 0,
		4, 0, 1, 0, 2, 0, 1, 0, 3, 0, 1, 0, 2, 0, 1, 0,
	}
	vectors := []uint16{0x40, 0x48, 0x50, 0x58, 0x60}
	for pending := 1; pending < 32; pending++ {
		n := lowest[pending]
		for _, k := range []int{1, 3, 5, 7} {
			s := stateOf(k)
			s.R = with(setPC(0x1234), setF(0x1f))
			b := &recorder{pending: byte(pending)}
			got, did := Step(table, s, b)
			want := State{R: with(setPC(vectors[n]), setSP(0xd076), setF(0x1f))}
			log := fmt.Sprintf("P I I Wd077=12 Wd076=34 A%d I", n)
			if got != want || did != (Did{What: Called, N: n, At: 0x1234}) || b.log() != log {
				t.Errorf("%+v, pending %05b: %+v, %+v, %s", s, pending, got, did, b.log())
			}
		}
	}
}

// TestInterruptAtTheEnds: the stack and the PC may be at the ends of the address space.
func TestInterruptAtTheEnds(t *testing.T) {
	for _, x := range []struct {
		sp, after uint16
		log       string
	}{
		{0x0000, 0xfffe, "P I I Wffff=ff Wfffe=fe A2 I"},
		{0x0001, 0xffff, "P I I W0000=ff Wffff=fe A2 I"},
		{0x0002, 0x0000, "P I I W0001=ff W0000=fe A2 I"},
	} {
		b := &recorder{pending: 4}
		s, did := Step(table, State{R: with(setPC(0xfffe), setSP(x.sp)), IME: true}, b)
		if s.R != with(setPC(0x50), setSP(x.after)) || did.At != 0xfffe || b.log() != x.log {
			t.Errorf("SP %04x: %+v, %+v, %s", x.sp, s, did, b.log())
		}
	}
}

// TestNoInterrupt: without IME, or without an interrupt, an instruction is
// executed, and Pending is called once all the same.
func TestNoInterrupt(t *testing.T) {
	for _, x := range []struct {
		ime, halt bool
		pending   byte
	}{{false, false, 0}, {false, false, 0x1f}, {false, true, 0x1f}, {true, false, 0}} {
		b := &recorder{pending: x.pending}
		s, did := Step(table, State{R: sample, IME: x.ime, Halt: x.halt}, b)
		if s != (State{R: with(setPC(0x101)), IME: x.ime}) || did.What != Ran || did.N != 0 || b.log() != "P F0100" {
			t.Errorf("%+v: %+v, %+v, %s", x, s, did, b.log())
		}
	}
}

// TestSoon: what an instruction makes of IME and Soon.
func TestSoon(t *testing.T) {
	const nop, di, ei, halt, stop, reti, bad = 0x00, 0xf3, 0xfb, 0x76, 0x10, 0xd9, 0xd3
	for _, x := range []struct {
		code                  byte
		ime, soon             bool
		wantIME, wantSoon     bool
		wantHalted, wantStood bool
	}{
		{nop, false, false, false, false, false, false},
		{nop, true, false, true, false, false, false},
		{nop, false, true, true, false, false, false},
		{nop, true, true, true, false, false, false},
		{di, false, false, false, false, false, false},
		{di, true, false, false, false, false, false},
		{di, false, true, false, false, false, false},
		{di, true, true, false, false, false, false},
		{ei, false, false, false, true, false, false},
		{ei, true, false, true, true, false, false},
		{ei, false, true, true, true, false, false},
		{ei, true, true, true, true, false, false},
		{halt, false, false, false, false, true, false},
		{halt, true, false, true, false, true, false},
		{halt, false, true, true, false, true, false},
		{stop, false, false, false, false, false, true},
		{stop, true, false, true, false, false, true},
		{stop, false, true, true, false, false, true},
		{reti, false, false, true, false, false, false},
		{reti, true, false, true, false, false, false},
		{reti, false, true, true, false, false, false},
		{bad, false, false, false, false, false, false},
		{bad, false, true, true, false, false, false},
	} {
		b := &recorder{}
		b.put(0x100, x.code)
		s, _ := Step(table, State{R: sample, IME: x.ime, Soon: x.soon}, b)
		if s.IME != x.wantIME || s.Soon != x.wantSoon || s.Halt != x.wantHalted || s.Stop != x.wantStood {
			t.Errorf("%02x with IME %t and Soon %t: %+v", x.code, x.ime, x.soon, s)
		}
	}
}

// TestEiThenInterrupt: the instruction after Ei is executed before a waiting
// interrupt, unless it is Di, which lets none happen; and Ei after Ei does not
// put it off.
func TestEiThenInterrupt(t *testing.T) {
	for _, x := range []struct {
		code []byte
		what []int
	}{
		{[]byte{0xfb, 0x00, 0x00}, []int{Ran, Ran, Called, Ran}},
		{[]byte{0xfb, 0xf3, 0x00}, []int{Ran, Ran, Ran, Ran}},
		{[]byte{0xfb, 0xfb, 0x00}, []int{Ran, Ran, Called, Ran}},
		{[]byte{0xfb, 0x76, 0x00}, []int{Ran, Ran, Called, Ran}},
	} {
		b := &recorder{pending: 1}
		b.put(0x100, x.code...)
		s := State{R: sample}
		for i, what := range x.what {
			var did Did
			s, did = Step(table, s, b)
			if did.What != what {
				t.Errorf("% x, step %d: %+v", x.code, i, did)
			}
		}
	}
}

// TestHaltAgain: a Halt that is executed when the waiting ended waits again.
func TestHaltAgain(t *testing.T) {
	b := &recorder{pending: 1}
	b.put(0x100, 0x76)
	if s, did := Step(table, State{R: sample, Halt: true}, b); !s.Halt || did.What != Ran || s.R.PC != 0x101 {
		t.Errorf("%+v, %+v", s, did)
	}
}

func TestBad(t *testing.T) {
	for _, code := range []byte{0xd3, 0xdb, 0xdd, 0xe3, 0xe4, 0xeb, 0xec, 0xed, 0xf4, 0xfc, 0xfd} {
		for _, at := range []uint16{0, 0x100, 0xffff} {
			b := &recorder{}
			b.put(at, code)
			s, did := Step(table, State{R: with(setPC(at))}, b)
			want := Did{What: Ran, At: at, Op: ops.Op{Kind: ops.Bad, Size: 1}, Taken: true}
			if s != (State{R: with(setPC(at))}) || did != want || b.log() != fmt.Sprintf("P F%04x", at) {
				t.Errorf("%02x at %04x: %+v, %+v, %s", code, at, s, did, b.log())
			}
		}
	}
}

// TestNil: without a table or a bus nothing happens, whatever the state is.
func TestNil(t *testing.T) {
	for n := range 16 {
		s := stateOf(n)
		s.R = with(setF(0x5f))
		want := Did{What: Slept, At: 0x100}
		b := &recorder{pending: 0x1f}
		if got, did := Step(nil, s, b); got != s || did != want || b.log() != "" {
			t.Errorf("%+v without a table: %+v, %+v, %s", s, got, did, b.log())
		}
		if got, did := Step(table, s, nil); got != s || did != want {
			t.Errorf("%+v without a bus: %+v, %+v", s, got, did)
		}
		if got, did := Step(nil, s, nil); got != s || did != want {
			t.Errorf("%+v without both: %+v, %+v", s, got, did)
		}
	}
}

// TestTableWithoutNew: a table that is not nil is filled when it is used.
func TestTableWithoutNew(t *testing.T) {
	b := &recorder{}
	b.put(0x100, 0x3e, 0x99)
	if s, _ := Step(&ops.Table{}, State{R: sample}, b); s.R != with(setPC(0x102), setA(0x99)) {
		t.Errorf("%+v", s)
	}
}

func TestTaken(t *testing.T) {
	const z, c = api.FlagZ, api.FlagC
	for _, x := range []struct {
		code byte
		f    byte
		want bool
	}{
		{0x18, 0, true}, {0x20, 0, true}, {0x20, z, false}, {0x28, z, true}, {0x28, c, false}, {0x30, z, true}, {0x30, c, false}, {0x38, c, true}, {0x38, z, false},
		{0xc3, 0, true}, {0xc2, 0, true}, {0xc2, z, false}, {0xca, z, true}, {0xca, c, false}, {0xd2, z, true}, {0xd2, c, false}, {0xda, c, true}, {0xda, z, false},
		{0xcd, 0, true}, {0xc4, 0, true}, {0xc4, z, false}, {0xcc, z, true}, {0xcc, c, false}, {0xd4, z, true}, {0xd4, c, false}, {0xdc, c, true}, {0xdc, z, false},
		{0xc9, 0, true}, {0xc0, 0, true}, {0xc0, z, false}, {0xc8, z, true}, {0xc8, c, false}, {0xd0, z, true}, {0xd0, c, false}, {0xd8, c, true}, {0xd8, z, false},
		{0xd9, 0, true}, {0xff, 0, true}, {0xe9, 0, true}, {0x00, 0, true}, {0x00, z | c, true}, {0xb8, 0, true}, {0x76, 0, true}, {0x10, 0, true}, {0xd3, 0, true},
	} {
		b := &recorder{}
		b.put(0x100, x.code)
		if _, did := Step(table, State{R: with(setF(x.f))}, b); did.Taken != x.want {
			t.Errorf("%02x with F %02x: %+v", x.code, x.f, did)
		}
	}
}

// TestLowerBitsOfF: steps that set F clear its lower four bits; other steps
// leave F as it is.
func TestLowerBitsOfF(t *testing.T) {
	for _, x := range []struct {
		code    []byte
		f, want byte
	}{
		{[]byte{0x00}, 0xff, 0xff}, {[]byte{0x78}, 0xaf, 0xaf}, {[]byte{0x03}, 0x5f, 0x5f}, {[]byte{0xcb, 0x80}, 0xff, 0xff}, {[]byte{0xcb, 0xc0}, 0xff, 0xff},
		{[]byte{0xcb, 0x86}, 0x3f, 0x3f}, {[]byte{0xcb, 0xc6}, 0x3f, 0x3f}, {[]byte{0xf5}, 0xff, 0xff}, {[]byte{0xc1}, 0xff, 0xff}, {[]byte{0xf9}, 0xff, 0xff},
		{[]byte{0x04}, 0x1f, 0x10}, {[]byte{0x05}, 0x1f, 0x50}, {[]byte{0x07}, 0xff, 0x00}, {[]byte{0x27}, 0x0f, 0x00},
		{[]byte{0x2f}, 0x9f, 0xf0}, {[]byte{0x2f}, 0x0f, 0x60}, {[]byte{0x37}, 0xef, 0x90}, {[]byte{0x37}, 0x6f, 0x10},
		{[]byte{0x3f}, 0xff, 0x80}, {[]byte{0x3f}, 0x6f, 0x10}, {[]byte{0x09}, 0xff, 0x80}, {[]byte{0x80}, 0xff, 0x00},
		{[]byte{0xcb, 0x78}, 0x1f, 0xb0}, {[]byte{0xcb, 0x37}, 0xff, 0x00}, {[]byte{0xe8, 0x01}, 0xff, 0x00}, {[]byte{0xf8, 0x01}, 0xff, 0x00},
	} {
		b := &recorder{}
		b.put(0x100, x.code...)
		if s, _ := Step(table, State{R: with(setF(x.f))}, b); s.R.F != x.want {
			t.Errorf("% x with F %02x: F %02x, want %02x", x.code, x.f, s.R.F, x.want)
		}
	}
}

// TestPopAF: of the byte that is popped to F, only the flags are kept.
func TestPopAF(t *testing.T) {
	b := &recorder{}
	b.put(0x100, 0xf1)
	b.put(0xd078, 0x5f, 0x99)
	if s, _ := Step(table, State{R: with(setF(0xaf))}, b); s.R != with(setPC(0x101), setSP(0xd07a), setA(0x99), setF(0x50)) {
		t.Errorf("%+v", s)
	}
}

// TestPushAF: the lower four bits of F are pushed as 0.
func TestPushAF(t *testing.T) {
	b := &recorder{}
	b.put(0x100, 0xf5)
	if _, _ = Step(table, State{R: with(setF(0xaf))}, b); b.log() != "P F0100 I Wd077=12 Wd076=a0" {
		t.Errorf("%s", b.log())
	}
}
