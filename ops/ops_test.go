package ops

import (
	"math"
	"testing"
)

// The bytes after the first one, and what they are as a byte and as a word.
const (
	second = 0x34
	third  = 0x12
	n8     = 0x34
	n16    = 0x1234
)

// badBytes are the first bytes that no instruction has.
var badBytes = []byte{0xd3, 0xdb, 0xdd, 0xe3, 0xe4, 0xeb, 0xec, 0xed, 0xf4, 0xfc, 0xfd}

func TestKinds(t *testing.T) {
	for i, kind := range []int{
		Nop, Stop, Halt, Bad, Di, Ei, Move, MoveN, Move16, Sum, SumN, Inc, Dec, Inc16, Dec16, Add16, Turn, TurnA,
		Daa, Cpl, Scf, Ccf, Jr, Jp, Call, Ret, Reti, Rst, JpHL, Push, Pop, LoadA, StoreA, LoadHigh, StoreHigh,
		LoadC, StoreC, LoadFar, StoreFar, StoreSP, AddSP, MoveHL, MoveSP, BitAt, Res, Set,
	} {
		if kind != i+1 {
			t.Errorf("kind %d has the number %d", i+1, kind)
		}
	}
}

func TestExample(t *testing.T) {
	o := New().Decode(0x3e, 0x12, 0)
	if want := (Op{Kind: MoveN, X: 7, Size: 2, N: 0x12}); o != want {
		t.Errorf("Decode(3e, 12, 0) = %v, want %v", o, want)
	}
	if text := Text(o); text != "ld a, 12" {
		t.Errorf("Text = %q, want %q", text, "ld a, 12")
	}
}

// decoded checks the instructions of the first bytes from the given one on.
func decoded(t *testing.T, from int, want []Op) {
	t.Helper()
	table := New()
	for i, w := range want {
		if o := table.Decode(byte(from+i), second, third); o != w {
			t.Errorf("Decode(%02x, %02x, %02x) = %v, want %v", from+i, second, third, o, w)
		}
	}
}

func TestDecodeFirstQuarter(t *testing.T) {
	decoded(t, 0x00, []Op{
		{Nop, 0, 0, 1, 0}, {Move16, 0, 0, 3, n16}, {StoreA, 0, 0, 1, 0}, {Inc16, 0, 0, 1, 0},
		{Inc, 0, 0, 1, 0}, {Dec, 0, 0, 1, 0}, {MoveN, 0, 0, 2, n8}, {TurnA, 0, 0, 1, 0},
		{StoreSP, 0, 0, 3, n16}, {Add16, 0, 0, 1, 0}, {LoadA, 0, 0, 1, 0}, {Dec16, 0, 0, 1, 0},
		{Inc, 1, 0, 1, 0}, {Dec, 1, 0, 1, 0}, {MoveN, 1, 0, 2, n8}, {TurnA, 1, 0, 1, 0},
		{Stop, 0, 0, 2, n8}, {Move16, 1, 0, 3, n16}, {StoreA, 1, 0, 1, 0}, {Inc16, 1, 0, 1, 0},
		{Inc, 2, 0, 1, 0}, {Dec, 2, 0, 1, 0}, {MoveN, 2, 0, 2, n8}, {TurnA, 2, 0, 1, 0},
		{Jr, 4, 0, 2, n8}, {Add16, 1, 0, 1, 0}, {LoadA, 1, 0, 1, 0}, {Dec16, 1, 0, 1, 0},
		{Inc, 3, 0, 1, 0}, {Dec, 3, 0, 1, 0}, {MoveN, 3, 0, 2, n8}, {TurnA, 3, 0, 1, 0},
		{Jr, 0, 0, 2, n8}, {Move16, 2, 0, 3, n16}, {StoreA, 2, 0, 1, 0}, {Inc16, 2, 0, 1, 0},
		{Inc, 4, 0, 1, 0}, {Dec, 4, 0, 1, 0}, {MoveN, 4, 0, 2, n8}, {Daa, 0, 0, 1, 0},
		{Jr, 1, 0, 2, n8}, {Add16, 2, 0, 1, 0}, {LoadA, 2, 0, 1, 0}, {Dec16, 2, 0, 1, 0},
		{Inc, 5, 0, 1, 0}, {Dec, 5, 0, 1, 0}, {MoveN, 5, 0, 2, n8}, {Cpl, 0, 0, 1, 0},
		{Jr, 2, 0, 2, n8}, {Move16, 3, 0, 3, n16}, {StoreA, 3, 0, 1, 0}, {Inc16, 3, 0, 1, 0},
		{Inc, 6, 0, 1, 0}, {Dec, 6, 0, 1, 0}, {MoveN, 6, 0, 2, n8}, {Scf, 0, 0, 1, 0},
		{Jr, 3, 0, 2, n8}, {Add16, 3, 0, 1, 0}, {LoadA, 3, 0, 1, 0}, {Dec16, 3, 0, 1, 0},
		{Inc, 7, 0, 1, 0}, {Dec, 7, 0, 1, 0}, {MoveN, 7, 0, 2, n8}, {Ccf, 0, 0, 1, 0},
	})
}

func TestDecodeMovesAndSums(t *testing.T) {
	var want []Op
	for _, kind := range []int{Move, Sum} {
		for x := range 8 {
			for y := range 8 {
				want = append(want, Op{Kind: kind, X: x, Y: y, Size: 1})
			}
		}
	}
	want[0x76-0x40] = Op{Kind: Halt, Size: 1}
	decoded(t, 0x40, want)
}

func TestDecodeLastQuarter(t *testing.T) {
	bad := Op{Bad, 0, 0, 1, 0}
	decoded(t, 0xc0, []Op{
		{Ret, 0, 0, 1, 0}, {Pop, 0, 0, 1, 0}, {Jp, 0, 0, 3, n16}, {Jp, 4, 0, 3, n16},
		{Call, 0, 0, 3, n16}, {Push, 0, 0, 1, 0}, {SumN, 0, 0, 2, n8}, {Rst, 0, 0, 1, 0x00},
		{Ret, 1, 0, 1, 0}, {Ret, 4, 0, 1, 0}, {Jp, 1, 0, 3, n16}, {Turn, 6, 4, 2, 0}, // the prefix, and 34
		{Call, 1, 0, 3, n16}, {Call, 4, 0, 3, n16}, {SumN, 1, 0, 2, n8}, {Rst, 0, 0, 1, 0x08},
		{Ret, 2, 0, 1, 0}, {Pop, 1, 0, 1, 0}, {Jp, 2, 0, 3, n16}, bad,
		{Call, 2, 0, 3, n16}, {Push, 1, 0, 1, 0}, {SumN, 2, 0, 2, n8}, {Rst, 0, 0, 1, 0x10},
		{Ret, 3, 0, 1, 0}, {Reti, 0, 0, 1, 0}, {Jp, 3, 0, 3, n16}, bad,
		{Call, 3, 0, 3, n16}, bad, {SumN, 3, 0, 2, n8}, {Rst, 0, 0, 1, 0x18},
		{StoreHigh, 0, 0, 2, n8}, {Pop, 2, 0, 1, 0}, {StoreC, 0, 0, 1, 0}, bad,
		bad, {Push, 2, 0, 1, 0}, {SumN, 4, 0, 2, n8}, {Rst, 0, 0, 1, 0x20},
		{AddSP, 0, 0, 2, n8}, {JpHL, 0, 0, 1, 0}, {StoreFar, 0, 0, 3, n16}, bad,
		bad, bad, {SumN, 5, 0, 2, n8}, {Rst, 0, 0, 1, 0x28},
		{LoadHigh, 0, 0, 2, n8}, {Pop, 4, 0, 1, 0}, {LoadC, 0, 0, 1, 0}, {Di, 0, 0, 1, 0},
		bad, {Push, 4, 0, 1, 0}, {SumN, 6, 0, 2, n8}, {Rst, 0, 0, 1, 0x30},
		{MoveHL, 0, 0, 2, n8}, {MoveSP, 0, 0, 1, 0}, {LoadFar, 0, 0, 3, n16}, {Ei, 0, 0, 1, 0},
		bad, bad, {SumN, 7, 0, 2, n8}, {Rst, 0, 0, 1, 0x38},
	})
}

func TestDecodePrefixed(t *testing.T) {
	table := New()
	b := 0
	for _, kind := range []int{Turn, BitAt, Res, Set} {
		for x := range 8 {
			for y := range 8 {
				want := Op{Kind: kind, X: x, Y: y, Size: 2}
				if o := table.Decode(0xcb, byte(b), third); o != want {
					t.Errorf("Decode(cb, %02x, %02x) = %v, want %v", b, third, o, want)
				}
				b++
			}
		}
	}
}

func TestDecodeNumbers(t *testing.T) {
	table := New()
	for _, x := range []struct {
		a, b, c byte
		n       uint16
	}{
		{0x01, 0x00, 0x00, 0x0000}, {0x01, 0xff, 0xff, 0xffff}, {0x01, 0xff, 0x00, 0x00ff}, {0x01, 0x00, 0xff, 0xff00},
		{0x3e, 0x00, 0xff, 0x0000}, {0x3e, 0xff, 0x00, 0x00ff}, {0x18, 0x80, 0x01, 0x0080}, {0x10, 0x81, 0x01, 0x0081},
		{0xff, 0x12, 0x34, 0x0038}, {0x00, 0xff, 0xff, 0x0000}, {0xd3, 0xff, 0xff, 0x0000}, {0xcb, 0xff, 0xff, 0x0000},
	} {
		if o := table.Decode(x.a, x.b, x.c); o.N != x.n {
			t.Errorf("Decode(%02x, %02x, %02x) has N %04x, want %04x", x.a, x.b, x.c, o.N, x.n)
		}
	}
}

func TestBadBytes(t *testing.T) {
	table := New()
	for _, a := range badBytes {
		o := table.Decode(a, 0xcb, 0xff)
		if want := (Op{Kind: Bad, Size: 1}); o != want || Text(o) != "bad" {
			t.Errorf("Decode(%02x, cb, ff) = %v, %q, want %v", a, o, Text(o), want)
		}
	}
}

func TestNilTable(t *testing.T) {
	var table *Table
	for a := range 256 {
		for _, b := range []byte{0x00, 0x34, 0xff} {
			o := table.Decode(byte(a), b, third)
			if want := (Op{Kind: Bad, Size: 1}); o != want || Text(o) != "bad" {
				t.Errorf("Decode(%02x, %02x, %02x) of nil = %v, %q, want %v", a, b, third, o, Text(o), want)
			}
		}
	}
}

func TestText(t *testing.T) {
	for _, x := range []struct {
		o    Op
		want string
	}{
		{Op{Kind: Nop}, "nop"}, {Op{Kind: Stop, N: 0x0a}, "stop 0a"}, {Op{Kind: Halt}, "halt"}, {Op{Kind: Bad}, "bad"},
		{Op{Kind: Di}, "di"}, {Op{Kind: Ei}, "ei"}, {Op{Kind: Daa}, "daa"}, {Op{Kind: Cpl}, "cpl"},
		{Op{Kind: Scf}, "scf"}, {Op{Kind: Ccf}, "ccf"}, {Op{Kind: Reti}, "reti"},
		{Op{Kind: TurnA, X: 0}, "rlca"}, {Op{Kind: TurnA, X: 1}, "rrca"}, {Op{Kind: TurnA, X: 2}, "rla"}, {Op{Kind: TurnA, X: 3}, "rra"},
		{Op{Kind: Move, X: 0, Y: 7}, "ld b, a"}, {Op{Kind: Move, X: 6, Y: 5}, "ld (hl), l"}, {Op{Kind: Move, X: 6, Y: 6}, "ld (hl), (hl)"},
		{Op{Kind: MoveN, X: 4, N: 0x05}, "ld h, 05"}, {Op{Kind: MoveN, X: 6, N: 0xff}, "ld (hl), ff"},
		{Op{Kind: Move16, X: 1, N: 0xabcd}, "ld de, abcd"}, {Op{Kind: Move16, X: 2, N: 0x000c}, "ld hl, 000c"},
		{Op{Kind: Inc, X: 3}, "inc e"}, {Op{Kind: Dec, X: 6}, "dec (hl)"}, {Op{Kind: Inc16, X: 3}, "inc sp"}, {Op{Kind: Dec16, X: 2}, "dec hl"},
		{Op{Kind: Add16, X: 0}, "add hl, bc"}, {Op{Kind: Add16, X: 2}, "add hl, hl"},
		{Op{Kind: Jr, X: 4, N: 0x00}, "jr 00"}, {Op{Kind: Jr, X: 0, N: 0xfe}, "jr nz, fe"}, {Op{Kind: Jr, X: 3, N: 0x7f}, "jr c, 7f"},
		{Op{Kind: Jp, X: 4, N: 0x0150}, "jp 0150"}, {Op{Kind: Jp, X: 1, N: 0x0005}, "jp z, 0005"}, {Op{Kind: JpHL}, "jp hl"},
		{Op{Kind: Call, X: 4, N: 0xffff}, "call ffff"}, {Op{Kind: Call, X: 2, N: 0x4000}, "call nc, 4000"},
		{Op{Kind: Ret, X: 4}, "ret"}, {Op{Kind: Ret, X: 0}, "ret nz"}, {Op{Kind: Ret, X: 3}, "ret c"},
		{Op{Kind: Rst, N: 0x00}, "rst 00"}, {Op{Kind: Rst, N: 0x08}, "rst 08"}, {Op{Kind: Rst, N: 0x38}, "rst 38"},
		{Op{Kind: Push, X: 4}, "push af"}, {Op{Kind: Pop, X: 1}, "pop de"}, {Op{Kind: Push, X: 3}, "push sp"}, {Op{Kind: Inc16, X: 4}, "inc af"},
		{Op{Kind: LoadA, X: 0}, "ld a, (bc)"}, {Op{Kind: LoadA, X: 1}, "ld a, (de)"}, {Op{Kind: LoadA, X: 2}, "ld a, (hl+)"}, {Op{Kind: LoadA, X: 3}, "ld a, (hl-)"},
		{Op{Kind: StoreA, X: 0}, "ld (bc), a"}, {Op{Kind: StoreA, X: 1}, "ld (de), a"}, {Op{Kind: StoreA, X: 2}, "ld (hl+), a"}, {Op{Kind: StoreA, X: 3}, "ld (hl-), a"},
		{Op{Kind: LoadHigh, N: 0x0f}, "ldh a, (0f)"}, {Op{Kind: StoreHigh, N: 0x40}, "ldh (40), a"}, {Op{Kind: LoadC}, "ldh a, (c)"}, {Op{Kind: StoreC}, "ldh (c), a"},
		{Op{Kind: LoadFar, N: 0x00ff}, "ld a, (00ff)"}, {Op{Kind: StoreFar, N: 0xd00d}, "ld (d00d), a"}, {Op{Kind: StoreSP, N: 0x0001}, "ld (0001), sp"},
		{Op{Kind: AddSP, N: 0x80}, "add sp, 80"}, {Op{Kind: MoveHL, N: 0x0e}, "ld hl, sp+0e"}, {Op{Kind: MoveHL, N: 0xfe}, "ld hl, sp+fe"}, {Op{Kind: MoveSP}, "ld sp, hl"},
		{Op{Kind: BitAt, X: 0, Y: 6}, "bit 0, (hl)"}, {Op{Kind: Res, X: 7, Y: 0}, "res 7, b"}, {Op{Kind: Set, X: 3, Y: 2}, "set 3, d"},
	} {
		if text := Text(x.o); text != x.want {
			t.Errorf("Text(%v) = %q, want %q", x.o, text, x.want)
		}
	}
}

// TestTextOfByte: of a number that is too great for a byte, the lower bits are written.
func TestTextOfByte(t *testing.T) {
	for _, x := range []struct {
		o    Op
		want string
	}{
		{Op{Kind: Stop, N: 0xab07}, "stop 07"}, {Op{Kind: MoveN, X: 7, N: 0xab07}, "ld a, 07"}, {Op{Kind: SumN, X: 7, N: 0xab70}, "cp a, 70"},
		{Op{Kind: Jr, X: 4, N: 0xabff}, "jr ff"}, {Op{Kind: Rst, N: 0xff00}, "rst 00"}, {Op{Kind: Rst, N: 0x0129}, "rst 29"},
		{Op{Kind: LoadHigh, N: 0xff44}, "ldh a, (44)"}, {Op{Kind: StoreHigh, N: 0xff00}, "ldh (00), a"},
		{Op{Kind: AddSP, N: 0xfffe}, "add sp, fe"}, {Op{Kind: MoveHL, N: 0x0102}, "ld hl, sp+02"},
	} {
		if text := Text(x.o); text != x.want {
			t.Errorf("Text(%v) = %q, want %q", x.o, text, x.want)
		}
	}
}

// TestUnusedFields: what an instruction does not use is not in its text.
func TestUnusedFields(t *testing.T) {
	for kind := Nop; kind <= Set; kind++ {
		o := Op{Kind: kind, X: 1, Y: 2, Size: 1, N: 3}
		o2 := o
		o2.Size = -99
		switch kind {
		case Stop, Rst, LoadHigh, StoreHigh, LoadFar, StoreFar, StoreSP, AddSP, MoveHL:
			o2.X, o2.Y = -1, 99
		case MoveN, Move16, SumN, Jr, Jp, Call:
			o2.Y = 99
		case Move, Sum, Turn, BitAt, Res, Set:
			o2.N = 0xffff
		case Inc, Dec, Inc16, Dec16, Add16, TurnA, Ret, Push, Pop, LoadA, StoreA:
			o2.Y, o2.N = 99, 0xffff
		default:
			o2.X, o2.Y, o2.N = -1, 99, 0xffff
		}
		if Text(o) != Text(o2) {
			t.Errorf("Text(%v) = %q, but Text(%v) = %q", o, Text(o), o2, Text(o2))
		}
	}
}

// outside returns numbers that are not from 0 to last, many of which would be
// in fewer bits.
func outside(last int) []int {
	return []int{
		-1, -2, -8, -256, math.MinInt, math.MinInt + 1, math.MinInt32,
		last + 1, last + 2, 8, 9, 255, 256, 257, 65536, 65537, 1 << 32, 1<<32 + 1, math.MaxInt,
	}
}

func TestTextOfInvalidX(t *testing.T) {
	for _, x := range []struct {
		kind, last int
		want       string
	}{
		{Move, 7, "ld ?, c"}, {MoveN, 7, "ld ?, 34"}, {Move16, 4, "ld ?, 1234"},
		{Sum, 7, "? a, c"}, {SumN, 7, "? a, 34"}, {Turn, 7, "? c"}, {TurnA, 3, "?"},
		{Inc, 7, "inc ?"}, {Dec, 7, "dec ?"}, {Inc16, 4, "inc ?"}, {Dec16, 4, "dec ?"}, {Add16, 4, "add hl, ?"},
		{Jr, 4, "jr ?, 34"}, {Jp, 4, "jp ?, 1234"}, {Call, 4, "call ?, 1234"}, {Ret, 4, "ret ?"},
		{Push, 4, "push ?"}, {Pop, 4, "pop ?"}, {LoadA, 3, "ld a, ?"}, {StoreA, 3, "ld ?, a"},
		{BitAt, 7, "bit ?, c"}, {Res, 7, "res ?, c"}, {Set, 7, "set ?, c"},
	} {
		for _, n := range outside(x.last) {
			o := Op{Kind: x.kind, X: n, Y: 1, N: n16}
			if text := Text(o); text != x.want {
				t.Errorf("Text(%v) = %q, want %q", o, text, x.want)
			}
		}
		o := Op{Kind: x.kind, X: x.last, Y: 1, N: n16}
		if text := Text(o); text == x.want {
			t.Errorf("Text(%v) = %q, but %d is valid", o, text, x.last)
		}
	}
}

func TestTextOfInvalidY(t *testing.T) {
	for _, x := range []struct {
		kind int
		want string
	}{
		{Move, "ld d, ?"}, {Sum, "sub a, ?"}, {Turn, "rl ?"}, {BitAt, "bit 2, ?"}, {Res, "res 2, ?"}, {Set, "set 2, ?"},
	} {
		for _, n := range outside(7) {
			o := Op{Kind: x.kind, X: 2, Y: n}
			if text := Text(o); text != x.want {
				t.Errorf("Text(%v) = %q, want %q", o, text, x.want)
			}
		}
	}
}

func TestTextOfInvalidXAndY(t *testing.T) {
	for _, x := range []struct {
		kind int
		want string
	}{
		{Move, "ld ?, ?"}, {Sum, "? a, ?"}, {Turn, "? ?"}, {BitAt, "bit ?, ?"}, {Res, "res ?, ?"}, {Set, "set ?, ?"},
	} {
		o := Op{Kind: x.kind, X: -1, Y: 8}
		if text := Text(o); text != x.want {
			t.Errorf("Text(%v) = %q, want %q", o, text, x.want)
		}
	}
}

func TestTextOfUnknownKind(t *testing.T) {
	for _, kind := range []int{0, -1, Set + 1, Set + 2, 255, 256, 257, 65537, 1<<32 + Nop, math.MinInt, math.MinInt + 1, math.MaxInt} {
		for _, x := range []int{0, 1, 4, -1} {
			o := Op{Kind: kind, X: x, Y: 1, Size: 1, N: n16}
			if text := Text(o); text != "?" {
				t.Errorf("Text(%v) = %q, want ?", o, text)
			}
		}
	}
}
