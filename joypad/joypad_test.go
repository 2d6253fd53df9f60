package joypad

import (
	"math"
	"slices"
	"testing"
)

// isRead checks the result of Read.
func isRead(t *testing.T, p Pad, want byte) {
	t.Helper()
	before := p
	if got := p.Read(); got != want {
		t.Errorf("Read of %+v = %02x, want %02x", p, got, want)
	}
	if p != before {
		t.Errorf("Read changed %+v to %+v", before, p)
	}
}

// written checks the results of Write.
func written(t *testing.T, p Pad, x byte, want Pad, request bool) {
	t.Helper()
	before := p
	got, asks := p.Write(x)
	if got != want || asks != request {
		t.Errorf("Write(%02x) of %+v = %+v, %t, want %+v, %t", x, p, got, asks, want, request)
	}
	if p != before {
		t.Errorf("Write(%02x) changed %+v to %+v", x, before, p)
	}
}

// pressed checks the results of Press.
func pressed(t *testing.T, p Pad, down byte, want Pad, request bool) {
	t.Helper()
	before := p
	got, asks := p.Press(down)
	if got != want || asks != request {
		t.Errorf("Press(%02x) of %+v = %+v, %t, want %+v, %t", down, p, got, asks, want, request)
	}
	if p != before {
		t.Errorf("Press(%02x) changed %+v to %+v", down, before, p)
	}
}

// held checks the result of At.
func held(t *testing.T, l Plan, n uint64, want byte) {
	t.Helper()
	before := slices.Clone(l)
	if got := l.At(n); got != want {
		t.Errorf("At(%d) of %v = %02x, want %02x", n, l, got, want)
	}
	if !slices.Equal(l, before) {
		t.Errorf("At(%d) changed %v to %v", n, before, l)
	}
}

// TestExample: the example of the chapter.
func TestExample(t *testing.T) {
	p := Pad{Select: 0x10, Down: 0x10}
	pressed(t, Pad{Select: 0x10}, 0x10, p, true)
	isRead(t, p, 0xde)
}

func TestRead(t *testing.T) {
	for _, x := range []struct {
		pad  Pad
		want byte
	}{
		{Pad{}, 0xcf},
		{Pad{Select: 0x10}, 0xdf},
		{Pad{Select: 0x20}, 0xef},
		{Pad{Select: 0x30}, 0xff},
		{Pad{Select: 0x00, Down: 0x81}, 0xc6},
		{Pad{Select: 0x10, Down: 0x81}, 0xd7},
		{Pad{Select: 0x20, Down: 0x81}, 0xee},
		{Pad{Select: 0x30, Down: 0x81}, 0xff},
		{Pad{Select: 0x00, Down: 0x44}, 0xcb},
		{Pad{Select: 0x00, Down: 0xff}, 0xc0},
		{Pad{Select: 0x10, Down: 0x0f}, 0xdf},
		{Pad{Select: 0x10, Down: 0xf0}, 0xd0},
		{Pad{Select: 0x20, Down: 0x0f}, 0xe0},
		{Pad{Select: 0x20, Down: 0xf0}, 0xef},
	} {
		isRead(t, x.pad, x.want)
	}
}

// TestLineOfEachKey: each key has its line, alone, and only while selected.
func TestLineOfEachKey(t *testing.T) {
	for key, line := range []byte{1, 2, 4, 8, 1, 2, 4, 8} {
		down := byte(1) << key
		isRead(t, Pad{Select: 0x00, Down: down}, 0xcf-line)
		isRead(t, Pad{Select: 0x30, Down: down}, 0xff)
		lower, upper := byte(0xef), byte(0xdf)
		if key < 4 {
			lower -= line
		} else {
			upper -= line
		}
		isRead(t, Pad{Select: 0x20, Down: down}, lower)
		isRead(t, Pad{Select: 0x10, Down: down}, upper)
	}
}

// TestOtherBitsOfSelect: they are not read, select nothing, stay when keys are
// pressed, and are cleared by a write.
func TestOtherBitsOfSelect(t *testing.T) {
	isRead(t, Pad{Select: 0xff, Down: 0xff}, 0xff)
	isRead(t, Pad{Select: 0xcf, Down: 0x81}, 0xc6)
	isRead(t, Pad{Select: 0xef, Down: 0x81}, 0xee)
	isRead(t, Pad{Select: 0xdf, Down: 0x81}, 0xd7)
	pressed(t, Pad{Select: 0xcf}, 0x81, Pad{Select: 0xcf, Down: 0x81}, true)
	pressed(t, Pad{Select: 0xff}, 0x81, Pad{Select: 0xff, Down: 0x81}, false)
	written(t, Pad{Select: 0xcf, Down: 0x81}, 0xcf, Pad{Down: 0x81}, false)
	written(t, Pad{Select: 0xff, Down: 0x81}, 0xef, Pad{Select: 0x20, Down: 0x81}, true)
}

func TestWrite(t *testing.T) {
	for _, x := range []struct {
		pad     Pad
		b       byte
		want    Pad
		request bool
	}{
		{Pad{}, 0x00, Pad{}, false},
		{Pad{}, 0xff, Pad{Select: 0x30}, false},
		{Pad{Select: 0x30}, 0x00, Pad{}, false},
		{Pad{Select: 0x30}, 0xcf, Pad{}, false},
		{Pad{Select: 0x30, Down: 1}, 0x20, Pad{Select: 0x20, Down: 1}, true},
		{Pad{Select: 0x30, Down: 1}, 0x10, Pad{Select: 0x10, Down: 1}, false},
		{Pad{Select: 0x30, Down: 0x80}, 0x20, Pad{Select: 0x20, Down: 0x80}, false},
		{Pad{Select: 0x30, Down: 0x80}, 0x10, Pad{Select: 0x10, Down: 0x80}, true},
		{Pad{Select: 0x30, Down: 0x80}, 0x00, Pad{Down: 0x80}, true},
		// From 0 to 1 is no interrupt.
		{Pad{Select: 0x20, Down: 1}, 0x30, Pad{Select: 0x30, Down: 1}, false},
		{Pad{Select: 0x00, Down: 0xff}, 0x30, Pad{Select: 0x30, Down: 0xff}, false},
		// Another key of the same line: the line stays 0.
		{Pad{Select: 0x20, Down: 0x11}, 0x10, Pad{Select: 0x10, Down: 0x11}, false},
		{Pad{Select: 0x20, Down: 0x11}, 0x00, Pad{Down: 0x11}, false},
		// One line from 0 to 1, another from 1 to 0.
		{Pad{Select: 0x20, Down: 0x21}, 0x10, Pad{Select: 0x10, Down: 0x21}, true},
		{Pad{Select: 0x10, Down: 0x21}, 0x20, Pad{Select: 0x20, Down: 0x21}, true},
		{Pad{Select: 0x20, Down: 0x17}, 0x10, Pad{Select: 0x10, Down: 0x17}, false},
		{Pad{Select: 0x10, Down: 0x17}, 0x20, Pad{Select: 0x20, Down: 0x17}, true},
		// The same keys again.
		{Pad{Select: 0x10, Down: 0xff}, 0x10, Pad{Select: 0x10, Down: 0xff}, false},
	} {
		written(t, x.pad, x.b, x.want, x.request)
	}
}

func TestPress(t *testing.T) {
	for _, x := range []struct {
		pad     Pad
		down    byte
		want    Pad
		request bool
	}{
		{Pad{}, 0, Pad{}, false},
		{Pad{}, 1, Pad{Down: 1}, true},
		{Pad{}, 0xff, Pad{Down: 0xff}, true},
		{Pad{Down: 0xff}, 0, Pad{}, false},
		{Pad{Down: 0xff}, 0xff, Pad{Down: 0xff}, false},
		{Pad{Select: 0x30}, 0xff, Pad{Select: 0x30, Down: 0xff}, false},
		{Pad{Select: 0x20}, 0x08, Pad{Select: 0x20, Down: 0x08}, true},
		{Pad{Select: 0x20}, 0xf0, Pad{Select: 0x20, Down: 0xf0}, false},
		{Pad{Select: 0x10}, 0x80, Pad{Select: 0x10, Down: 0x80}, true},
		{Pad{Select: 0x10}, 0x0f, Pad{Select: 0x10, Down: 0x0f}, false},
		// A key is replaced by another one of the same line, or of another line.
		{Pad{Down: 0x01}, 0x10, Pad{Down: 0x10}, false},
		{Pad{Down: 0x01}, 0x11, Pad{Down: 0x11}, false},
		{Pad{Down: 0x11}, 0x01, Pad{Down: 0x01}, false},
		{Pad{Down: 0x01}, 0x02, Pad{Down: 0x02}, true},
		{Pad{Down: 0x02}, 0x01, Pad{Down: 0x01}, true},
		{Pad{Down: 0x01}, 0x20, Pad{Down: 0x20}, true},
		// Pressed before, but not selected.
		{Pad{Select: 0x20, Down: 0x10}, 0x11, Pad{Select: 0x20, Down: 0x11}, true},
		{Pad{Select: 0x10, Down: 0x01}, 0x11, Pad{Select: 0x10, Down: 0x11}, true},
	} {
		pressed(t, x.pad, x.down, x.want, x.request)
	}
}

// TestNoKeysSelected: P9.3's second sentence.
func TestNoKeysSelected(t *testing.T) {
	for down := range 0x100 {
		p := Pad{Select: 0x30, Down: byte(down)}
		isRead(t, p, 0xff)
		isRead(t, Pad{Select: 0xff, Down: byte(down)}, 0xff)
		written(t, p, 0x30, p, false)
		written(t, Pad{Down: byte(down)}, 0x30, p, false)
		pressed(t, Pad{Select: 0x30, Down: ^p.Down}, p.Down, p, false)
		pressed(t, Pad{Select: 0x30}, p.Down, p, false)
	}
}

func TestAt(t *testing.T) {
	l := Plan{{At: 10, Down: 1}, {At: 5, Down: 2}, {At: 20, Down: 3}}
	for _, x := range []struct {
		n    uint64
		want byte
	}{
		{0, 0}, {4, 0}, {5, 2}, {6, 2}, {9, 2}, {10, 1}, {11, 1}, {19, 1}, {20, 3}, {21, 3},
		{math.MaxInt64, 3}, {math.MaxInt64 + 1, 3}, {math.MaxUint64, 3},
	} {
		held(t, l, x.n, x.want)
	}
}

// TestNoChange: before the first change, no keys are pressed.
func TestNoChange(t *testing.T) {
	for _, n := range []uint64{0, 1, math.MaxInt64, math.MaxUint64} {
		held(t, nil, n, 0)
		held(t, Plan{}, n, 0)
	}
	held(t, Plan{{At: math.MaxUint64, Down: 9}}, math.MaxUint64-1, 0)
	held(t, Plan{{At: 1, Down: 9}, {At: 2, Down: 8}}, 0, 0)
}

// TestEnds: the first and the last number, and those that are negative as int64.
func TestEnds(t *testing.T) {
	held(t, Plan{{At: 0, Down: 9}}, 0, 9)
	held(t, Plan{{At: 0, Down: 9}}, math.MaxUint64, 9)
	held(t, Plan{{At: 1, Down: 8}, {At: 0, Down: 9}}, 0, 9)
	held(t, Plan{{At: 1, Down: 8}, {At: 0, Down: 9}}, 1, 8)
	high := Plan{{At: math.MaxUint64, Down: 9}, {At: 1 << 63, Down: 8}, {At: 1<<63 - 1, Down: 7}, {At: 1, Down: 6}}
	held(t, high, math.MaxUint64, 9)
	held(t, high, math.MaxUint64-1, 8)
	held(t, high, 1<<63, 8)
	held(t, high, 1<<63-1, 7)
	held(t, high, 1<<63-2, 6)
	held(t, high, 1<<32, 6)
}

// TestSameAt: of several changes that have the greatest At, the last one holds,
// even if it is 0, and wherever the others are.
func TestSameAt(t *testing.T) {
	held(t, Plan{{At: 10, Down: 1}, {At: 5, Down: 2}, {At: 10, Down: 3}}, 10, 3)
	held(t, Plan{{At: 10, Down: 3}, {At: 10, Down: 1}, {At: 5, Down: 2}}, 10, 1)
	held(t, Plan{{At: 10, Down: 3}, {At: 10, Down: 0}}, 10, 0)
	held(t, Plan{{At: 0, Down: 3}, {At: 0, Down: 4}, {At: 1, Down: 5}}, 0, 4)
	held(t, Plan{{At: math.MaxUint64, Down: 3}, {At: math.MaxUint64, Down: 4}}, math.MaxUint64, 4)
	held(t, Plan{{At: 5, Down: 3}, {At: 5, Down: 4}, {At: 7, Down: 5}, {At: 7, Down: 6}}, 6, 4)
}

// TestBeyondLength: R3, the memory beyond the length of a plan.
func TestBeyondLength(t *testing.T) {
	all := Plan{{At: 1, Down: 1}, {At: 2, Down: 2}, {At: 3, Down: 3}}
	held(t, all[:2], 9, 2)
	held(t, all[:0], 9, 0)
	held(t, all, 9, 3)
}
