package cpu

import (
	"testing"

	"retrograde/regs"
)

// performed is an instruction with the registers before and after it, and its
// calls of the bus after that of Pending.
type performed struct {
	code          []byte
	before, after regs.Regs
	log           string
}

// check executes instructions, with 80 at the address in HL and 34 12 on the
// stack of sample.
func check(t *testing.T, list []performed) {
	t.Helper()
	for _, x := range list {
		b := &recorder{}
		b.put(0xc067, 0x80)
		b.put(0xd078, 0x34, 0x12)
		b.put(x.before.PC, x.code...)
		s, did := Step(table, State{R: x.before}, b)
		if s.R != x.after || b.log() != "P "+x.log {
			t.Errorf("% x:\n%x, %s, want\n%x, P %s", x.code, s.R, b.log(), x.after, x.log)
		}
		if did.What != Ran || did.At != x.before.PC || did.N != 0 {
			t.Errorf("% x: %+v", x.code, did)
		}
	}
}

// set returns the change that sets byte register n.
func set(n int, x byte) func(r *regs.Regs) {
	return func(r *regs.Regs) { *r, _ = r.Set(n, x) }
}

func TestMoves(t *testing.T) {
	one, two, three := setPC(0x101), setPC(0x102), setPC(0x103)
	check(t, []performed{
		{[]byte{0x41}, with(), with(one, set(0, 0x34)), "F0100"},
		{[]byte{0x7b}, with(), with(one, setA(0x56)), "F0100"},
		{[]byte{0x6f}, with(), with(one, set(5, 0x12)), "F0100"},
		{[]byte{0x40}, with(), with(one), "F0100"},
		{[]byte{0x56}, with(), with(one, set(2, 0x80)), "F0100 Rc067"},
		{[]byte{0x66}, with(), with(one, set(4, 0x80)), "F0100 Rc067"},
		{[]byte{0x71}, with(), with(one), "F0100 Wc067=34"},
		{[]byte{0x75}, with(), with(one), "F0100 Wc067=67"},
		{[]byte{0x26, 0x99}, with(), with(two, set(4, 0x99)), "F0100 F0101"},
		{[]byte{0x36, 0x99}, with(), with(two), "F0100 F0101 Wc067=99"},
		{[]byte{0x01, 0xcd, 0xab}, with(), with(three, set(0, 0xab), set(1, 0xcd)), "F0100 F0101 F0102"},
		{[]byte{0x31, 0xcd, 0xab}, with(), with(three, setSP(0xabcd)), "F0100 F0101 F0102"},
		{[]byte{0xf9}, with(), with(one, setSP(0xc067)), "F0100 I"},
		{[]byte{0x08, 0x00, 0xc1}, with(), with(three), "F0100 F0101 F0102 Wc100=78 Wc101=d0"},
		{[]byte{0x08, 0xff, 0xff}, with(), with(three), "F0100 F0101 F0102 Wffff=78 W0000=d0"},
		{[]byte{0x08, 0xff, 0xc1}, with(), with(three), "F0100 F0101 F0102 Wc1ff=78 Wc200=d0"},
	})
}

func TestCopiesOfA(t *testing.T) {
	one, two, three := setPC(0x101), setPC(0x102), setPC(0x103)
	check(t, []performed{
		{[]byte{0x02}, with(), with(one), "F0100 W2334=12"},
		{[]byte{0x12}, with(), with(one), "F0100 W4556=12"},
		{[]byte{0x22}, with(), with(one, setHL(0xc068)), "F0100 Wc067=12"},
		{[]byte{0x32}, with(), with(one, setHL(0xc066)), "F0100 Wc067=12"},
		{[]byte{0x0a}, with(), with(one, setA(0)), "F0100 R2334"},
		{[]byte{0x1a}, with(), with(one, setA(0)), "F0100 R4556"},
		{[]byte{0x2a}, with(), with(one, setA(0x80), setHL(0xc068)), "F0100 Rc067"},
		{[]byte{0x3a}, with(), with(one, setA(0x80), setHL(0xc066)), "F0100 Rc067"},
		{[]byte{0x22}, with(setHL(0xffff)), with(one, setHL(0x0000)), "F0100 Wffff=12"},
		{[]byte{0x32}, with(setHL(0x0000)), with(one, setHL(0xffff)), "F0100 W0000=12"},
		{[]byte{0x2a}, with(setHL(0xc0ff)), with(one, setA(0), setHL(0xc100)), "F0100 Rc0ff"},
		{[]byte{0x3a}, with(setHL(0xc100)), with(one, setA(0), setHL(0xc0ff)), "F0100 Rc100"},
		{[]byte{0xe0, 0x80}, with(), with(two), "F0100 F0101 Wff80=12"},
		{[]byte{0xf0, 0xff}, with(), with(two, setA(0)), "F0100 F0101 Rffff"},
		{[]byte{0xe2}, with(), with(one), "F0100 Wff34=12"},
		{[]byte{0xf2}, with(set(1, 0xff)), with(one, set(1, 0xff), setA(0)), "F0100 Rffff"},
		{[]byte{0xea, 0x67, 0xc0}, with(), with(three), "F0100 F0101 F0102 Wc067=12"},
		{[]byte{0xfa, 0x67, 0xc0}, with(), with(three, setA(0x80)), "F0100 F0101 F0102 Rc067"},
	})
}

func TestSums(t *testing.T) {
	one, two := setPC(0x101), setPC(0x102)
	check(t, []performed{
		{[]byte{0x80}, with(setF(0x10)), with(one, setA(0x35), setF(0x00)), "F0100"},
		{[]byte{0x88}, with(setF(0x10)), with(one, setA(0x36), setF(0x00)), "F0100"},
		{[]byte{0x88}, with(setF(0xe0)), with(one, setA(0x35), setF(0x00)), "F0100"},
		{[]byte{0x90}, with(setF(0x10)), with(one, setA(0xef), setF(0x70)), "F0100"},
		{[]byte{0x98}, with(setF(0x10)), with(one, setA(0xee), setF(0x70)), "F0100"},
		{[]byte{0x98}, with(setF(0xe0)), with(one, setA(0xef), setF(0x70)), "F0100"},
		{[]byte{0xa0}, with(setF(0x10)), with(one, setA(0x02), setF(0x20)), "F0100"},
		{[]byte{0xa8}, with(setF(0x10)), with(one, setA(0x31), setF(0x00)), "F0100"},
		{[]byte{0xb0}, with(setF(0x10)), with(one, setA(0x33), setF(0x00)), "F0100"},
		{[]byte{0xb8}, with(setF(0x10)), with(one, setF(0x70)), "F0100"},
		{[]byte{0xbf}, with(setF(0x10)), with(one, setF(0xc0)), "F0100"},
		{[]byte{0xb8}, with(setA(0x23), setF(0x10)), with(one, setA(0x23), setF(0xc0)), "F0100"},
		{[]byte{0x86}, with(), with(one, setA(0x92)), "F0100 Rc067"},
		{[]byte{0xbe}, with(), with(one, setF(0x50)), "F0100 Rc067"},
		{[]byte{0xc6, 0xee}, with(setF(0x10)), with(two, setA(0), setF(0xb0)), "F0100 F0101"},
		{[]byte{0xce, 0xed}, with(setF(0x10)), with(two, setA(0), setF(0xb0)), "F0100 F0101"},
		{[]byte{0xde, 0x11}, with(setF(0x10)), with(two, setA(0), setF(0xc0)), "F0100 F0101"},
		{[]byte{0xee, 0x12}, with(), with(two, setA(0), setF(0x80)), "F0100 F0101"},
		{[]byte{0xfe, 0x12}, with(), with(two, setF(0xc0)), "F0100 F0101"},
	})
}

func TestArithmeticOfOneOperand(t *testing.T) {
	one := setPC(0x101)
	check(t, []performed{
		{[]byte{0x04}, with(setF(0xf0)), with(one, set(0, 0x24), setF(0x10)), "F0100"},
		{[]byte{0x3c}, with(setA(0xff)), with(one, setA(0), setF(0xa0)), "F0100"},
		{[]byte{0x34}, with(setF(0xf0)), with(one, setF(0x10)), "F0100 Rc067 Wc067=81"},
		{[]byte{0x35}, with(setF(0xf0)), with(one, setF(0x70)), "F0100 Rc067 Wc067=7f"},
		{[]byte{0x0d}, with(), with(one, set(1, 0x33), setF(0x40)), "F0100"},
		{[]byte{0x03}, with(setF(0xf0)), with(one, set(1, 0x35), setF(0xf0)), "F0100 I"},
		{[]byte{0x33}, with(setSP(0xffff)), with(one, setSP(0)), "F0100 I"},
		{[]byte{0x23}, with(setHL(0xc0ff)), with(one, setHL(0xc100)), "F0100 I"},
		{[]byte{0x1b}, with(setF(0xf0)), with(one, set(3, 0x55), setF(0xf0)), "F0100 I"},
		{[]byte{0x3b}, with(setSP(0)), with(one, setSP(0xffff)), "F0100 I"},
		{[]byte{0x2b}, with(setHL(0xc100)), with(one, setHL(0xc0ff)), "F0100 I"},
		{[]byte{0x09}, with(setF(0xf0)), with(one, setHL(0xe39b), setF(0x80)), "F0100 I"},
		{[]byte{0x29}, with(), with(one, setHL(0x80ce), setF(0x10)), "F0100 I"},
		{[]byte{0x39}, with(setF(0x40)), with(one, setHL(0x90df), setF(0x10)), "F0100 I"},
		{[]byte{0x27}, with(setA(0x7d)), with(one, setA(0x83)), "F0100"},
		{[]byte{0x27}, with(setA(0x6f), setF(0x60)), with(one, setA(0x69), setF(0x40)), "F0100"},
		{[]byte{0x2f}, with(setF(0x90)), with(one, setA(0xed), setF(0xf0)), "F0100"},
		{[]byte{0x2f}, with(setA(0xff)), with(one, setA(0), setF(0x60)), "F0100"},
		{[]byte{0x37}, with(setF(0xe0)), with(one, setF(0x90)), "F0100"},
		{[]byte{0x37}, with(setF(0x70)), with(one, setF(0x10)), "F0100"},
		{[]byte{0x3f}, with(setF(0xe0)), with(one, setF(0x90)), "F0100"},
		{[]byte{0x3f}, with(setF(0xf0)), with(one, setF(0x80)), "F0100"},
	})
}

func TestArithmeticOfSP(t *testing.T) {
	two := setPC(0x102)
	check(t, []performed{
		{[]byte{0xe8, 0x08}, with(setF(0xf0)), with(two, setSP(0xd080), setF(0x20)), "F0100 F0101 I I"},
		{[]byte{0xe8, 0xff}, with(), with(two, setSP(0xd077), setF(0x30)), "F0100 F0101 I I"},
		{[]byte{0xe8, 0x80}, with(setSP(0)), with(two, setSP(0xff80)), "F0100 F0101 I I"},
		{[]byte{0xe8, 0x7f}, with(setSP(0xffff)), with(two, setSP(0x7e), setF(0x30)), "F0100 F0101 I I"},
		{[]byte{0xf8, 0x08}, with(setF(0xf0)), with(two, setHL(0xd080), setF(0x20)), "F0100 F0101 I"},
		{[]byte{0xf8, 0xff}, with(), with(two, setHL(0xd077), setF(0x30)), "F0100 F0101 I"},
		{[]byte{0xf8, 0x80}, with(setSP(0)), with(two, setSP(0), setHL(0xff80)), "F0100 F0101 I"},
		{[]byte{0xf8, 0x00}, with(setSP(0)), with(two, setSP(0), setHL(0)), "F0100 F0101 I"},
	})
}

func TestRotationsAndBits(t *testing.T) {
	one, two := setPC(0x101), setPC(0x102)
	check(t, []performed{
		{[]byte{0x07}, with(setA(0x81), setF(0xe0)), with(one, setA(0x03), setF(0x10)), "F0100"},
		{[]byte{0x0f}, with(setA(0x81), setF(0xe0)), with(one, setA(0xc0), setF(0x10)), "F0100"},
		{[]byte{0x17}, with(setA(0x80), setF(0x80)), with(one, setA(0x00), setF(0x10)), "F0100"},
		{[]byte{0x17}, with(setA(0x00), setF(0x10)), with(one, setA(0x01), setF(0x00)), "F0100"},
		{[]byte{0x1f}, with(setA(0x01), setF(0x80)), with(one, setA(0x00), setF(0x10)), "F0100"},
		{[]byte{0x1f}, with(setA(0x00), setF(0x10)), with(one, setA(0x80), setF(0x00)), "F0100"},
		{[]byte{0xcb, 0x00}, with(), with(two, set(0, 0x46)), "F0100 F0101"},
		{[]byte{0xcb, 0x17}, with(setA(0x80)), with(two, setA(0x00), setF(0x90)), "F0100 F0101"},
		{[]byte{0xcb, 0x06}, with(), with(two, setF(0x10)), "F0100 F0101 Rc067 Wc067=01"},
		{[]byte{0xcb, 0x2e}, with(setF(0xf0)), with(two), "F0100 F0101 Rc067 Wc067=c0"},
		{[]byte{0xcb, 0x36}, with(setF(0xf0)), with(two), "F0100 F0101 Rc067 Wc067=08"},
		{[]byte{0xcb, 0x3d}, with(), with(two, set(5, 0x33), setF(0x10)), "F0100 F0101"},
		{[]byte{0xcb, 0x7e}, with(setF(0xd0)), with(two, setF(0x30)), "F0100 F0101 Rc067"},
		{[]byte{0xcb, 0x76}, with(), with(two, setF(0xa0)), "F0100 F0101 Rc067"},
		{[]byte{0xcb, 0x4f}, with(), with(two, setF(0x20)), "F0100 F0101"},
		{[]byte{0xcb, 0xbe}, with(setF(0xf0)), with(two, setF(0xf0)), "F0100 F0101 Rc067 Wc067=00"},
		{[]byte{0xcb, 0x86}, with(), with(two), "F0100 F0101 Rc067 Wc067=80"},
		{[]byte{0xcb, 0x88}, with(), with(two, set(0, 0x21)), "F0100 F0101"},
		{[]byte{0xcb, 0xc6}, with(setF(0xf0)), with(two, setF(0xf0)), "F0100 F0101 Rc067 Wc067=81"},
		{[]byte{0xcb, 0xfe}, with(), with(two), "F0100 F0101 Rc067 Wc067=80"},
		{[]byte{0xcb, 0xfa}, with(), with(two, set(2, 0xc5)), "F0100 F0101"},
	})
}

func TestJumps(t *testing.T) {
	check(t, []performed{
		{[]byte{0x18, 0x00}, with(), with(setPC(0x102)), "F0100 F0101 I"},
		{[]byte{0x18, 0x7f}, with(), with(setPC(0x181)), "F0100 F0101 I"},
		{[]byte{0x18, 0x80}, with(), with(setPC(0x082)), "F0100 F0101 I"},
		{[]byte{0x18, 0xfe}, with(), with(setPC(0x100)), "F0100 F0101 I"},
		{[]byte{0x18, 0x80}, with(setPC(0)), with(setPC(0xff82)), "F0000 F0001 I"},
		{[]byte{0x18, 0x7f}, with(setPC(0xfff0)), with(setPC(0x71)), "Ffff0 Ffff1 I"},
		{[]byte{0x20, 0x10}, with(setF(0x80)), with(setPC(0x102), setF(0x80)), "F0100 F0101"},
		{[]byte{0x38, 0x10}, with(setF(0x10)), with(setPC(0x112), setF(0x10)), "F0100 F0101 I"},
		{[]byte{0xc3, 0xcd, 0xab}, with(), with(setPC(0xabcd)), "F0100 F0101 F0102 I"},
		{[]byte{0xc2, 0xcd, 0xab}, with(), with(setPC(0xabcd)), "F0100 F0101 F0102 I"},
		{[]byte{0xca, 0xcd, 0xab}, with(), with(setPC(0x103)), "F0100 F0101 F0102"},
		{[]byte{0xe9}, with(), with(setPC(0xc067)), "F0100"},
	})
}

func TestCallsAndReturns(t *testing.T) {
	down, up := setSP(0xd076), setSP(0xd07a)
	check(t, []performed{
		{[]byte{0xcd, 0xcd, 0xab}, with(), with(setPC(0xabcd), down), "F0100 F0101 F0102 I Wd077=01 Wd076=03"},
		{[]byte{0xdc, 0xcd, 0xab}, with(setF(0x10)), with(setPC(0xabcd), down, setF(0x10)), "F0100 F0101 F0102 I Wd077=01 Wd076=03"},
		{[]byte{0xdc, 0xcd, 0xab}, with(), with(setPC(0x103)), "F0100 F0101 F0102"},
		{[]byte{0xc7}, with(), with(setPC(0x00), down), "F0100 I Wd077=01 Wd076=01"},
		{[]byte{0xdf}, with(), with(setPC(0x18), down), "F0100 I Wd077=01 Wd076=01"},
		{[]byte{0xff}, with(), with(setPC(0x38), down), "F0100 I Wd077=01 Wd076=01"},
		{[]byte{0xc9}, with(), with(setPC(0x1234), up), "F0100 Rd078 Rd079 I"},
		{[]byte{0xd9}, with(), with(setPC(0x1234), up), "F0100 Rd078 Rd079 I"},
		{[]byte{0xc0}, with(), with(setPC(0x1234), up), "F0100 I Rd078 Rd079 I"},
		{[]byte{0xc8}, with(), with(setPC(0x101)), "F0100 I"},
		{[]byte{0xc5}, with(), with(setPC(0x101), down), "F0100 I Wd077=23 Wd076=34"},
		{[]byte{0xd5}, with(setSP(1)), with(setPC(0x101), setSP(0xffff)), "F0100 I W0000=45 Wffff=56"},
		{[]byte{0xe1}, with(), with(setPC(0x101), up, setHL(0x1234)), "F0100 Rd078 Rd079"},
		{[]byte{0xd1}, with(setSP(0xffff)), with(setPC(0x101), setSP(1), set(2, 0), set(3, 0)), "F0100 Rffff R0000"},
	})
}

func TestOthers(t *testing.T) {
	check(t, []performed{
		{[]byte{0x00}, with(setF(0xf0)), with(setPC(0x101), setF(0xf0)), "F0100"},
		{[]byte{0x10, 0x99}, with(), with(setPC(0x102)), "F0100 F0101"},
		{[]byte{0x76}, with(), with(setPC(0x101)), "F0100"},
		{[]byte{0xf3}, with(), with(setPC(0x101)), "F0100"},
		{[]byte{0xfb}, with(), with(setPC(0x101)), "F0100"},
	})
}

// TestFetchAtTheEnd: an instruction may go on at address 0.
func TestFetchAtTheEnd(t *testing.T) {
	check(t, []performed{
		{[]byte{0x00}, with(setPC(0xffff)), with(setPC(0)), "Fffff"},
		{[]byte{0x3e, 0x99}, with(setPC(0xffff)), with(setPC(1), setA(0x99)), "Fffff F0000"},
		{[]byte{0xcb, 0x3f}, with(setPC(0xffff)), with(setPC(1), setA(0x09)), "Fffff F0000"},
		{[]byte{0xc2, 0xcd, 0xab}, with(setPC(0xfffe), setF(0x80)), with(setPC(1), setF(0x80)), "Ffffe Fffff F0000"},
	})
}
