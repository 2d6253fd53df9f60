package joypad

import (
	"slices"
	"testing"
)

// The tests of this file hold the functions against a second reading of the
// document, line by line and change by change.

// wantLine returns what a line should be.
func wantLine(p Pad, line int) int {
	digit := func(x byte, bit int) int { return (int(x) >> bit) % 2 }
	for group := range 2 {
		key := line + 4*group
		if digit(p.Select, 4+group) == 0 && digit(p.Down, key) == 1 {
			return 0
		}
	}
	return 1
}

// wantRead returns what Read should return.
func wantRead(p Pad) byte {
	x := 192 + int(p.Select)/16%4*16
	for line, weight := range []int{1, 2, 4, 8} {
		x += wantLine(p, line) * weight
	}
	return byte(x)
}

// wantInterrupt returns whether an interrupt should be requested.
func wantInterrupt(before, after Pad) bool {
	for line := range 4 {
		if wantLine(before, line) == 1 && wantLine(after, line) == 0 {
			return true
		}
	}
	return false
}

// selects are all select bits, without other bits and with all of them.
var selects = []byte{0x00, 0x10, 0x20, 0x30, 0xcf, 0xdf, 0xef, 0xff}

// everyPad calls a function for pads with these select bits and all keys, and
// every byte.
func everyPad(look func(p Pad, x byte)) {
	for _, selected := range selects {
		for down := range 0x100 {
			for x := range 0x100 {
				look(Pad{Select: selected, Down: byte(down)}, byte(x))
			}
		}
	}
}

func TestEveryRead(t *testing.T) {
	for selected := range 0x100 {
		for down := range 0x100 {
			p := Pad{Select: byte(selected), Down: byte(down)}
			isRead(t, p, wantRead(p))
		}
	}
}

func TestEveryWrite(t *testing.T) {
	everyPad(func(p Pad, x byte) {
		want := Pad{Select: x / 16 % 4 * 16, Down: p.Down}
		written(t, p, x, want, wantInterrupt(p, want))
	})
}

func TestEveryPress(t *testing.T) {
	everyPad(func(p Pad, x byte) {
		want := Pad{Select: p.Select, Down: x}
		pressed(t, p, x, want, wantInterrupt(p, want))
	})
}

// wantAt returns what At should return, from the end of the sorted plan.
func wantAt(l Plan, n uint64) byte {
	sorted := slices.Clone(l)
	slices.SortStableFunc(sorted, func(a, b Change) int {
		switch {
		case a.At < b.At:
			return -1
		case a.At > b.At:
			return 1
		}
		return 0
	})
	for _, c := range slices.Backward(sorted) {
		if c.At <= n {
			return c.Down
		}
	}
	return 0
}

// TestEveryPlan: all plans of up to five changes at 0 to 3, which press other
// keys each.
func TestEveryPlan(t *testing.T) {
	var extend func(l Plan)
	extend = func(l Plan) {
		for n := range uint64(5) {
			held(t, l, n, wantAt(l, n))
		}
		if len(l) == 5 {
			return
		}
		for at := range uint64(4) {
			extend(append(slices.Clone(l), Change{At: at, Down: 0x11 * byte(len(l)+1)}))
		}
	}
	extend(nil)
}

// numbers returns a function that returns other numbers in each call, the same
// in each run.
func numbers() func(below int) int {
	x := uint64(1)
	return func(below int) int {
		x = x*6364136223846793005 + 1442695040888963407
		return int(x>>33) % below
	}
}

// TestVariedPlans: long plans, in which some changes have the same At.
func TestVariedPlans(t *testing.T) {
	number := numbers()
	for range 2000 {
		l := make(Plan, number(60))
		for i := range l {
			l[i] = Change{At: uint64(number(40)) << number(60), Down: byte(number(256))}
		}
		for range 20 {
			n := uint64(number(40)) << number(60)
			held(t, l, n, wantAt(l, n))
		}
	}
}

// permutations calls a function for every order of the changes from the k-th on.
func permutations(l Plan, k int, look func(Plan)) {
	if k == len(l) {
		look(l)
		return
	}
	for i := k; i < len(l); i++ {
		l[k], l[i] = l[i], l[k]
		permutations(l, k+1, look)
		l[k], l[i] = l[i], l[k]
	}
}

// TestOrder: P9.3's first sentence.
func TestOrder(t *testing.T) {
	l := Plan{{0, 0x81}, {2, 0x42}, {3, 0}, {4, 0x24}, {1 << 40, 0x18}, {1<<64 - 1, 0xff}}
	permutations(l, 0, func(l Plan) {
		for _, x := range []struct {
			n    uint64
			want byte
		}{
			{0, 0x81}, {1, 0x81}, {2, 0x42}, {3, 0}, {4, 0x24}, {1<<40 - 1, 0x24},
			{1 << 40, 0x18}, {1<<64 - 2, 0x18}, {1<<64 - 1, 0xff},
		} {
			held(t, l, x.n, x.want)
		}
	})
}
