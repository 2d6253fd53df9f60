package alu

import (
	"math"
	"testing"

	"retrograde/api"
)

const (
	z = api.FlagZ
	n = api.FlagN
	h = api.FlagH
	c = api.FlagC
)

func TestAdd(t *testing.T) {
	for _, x := range []struct {
		name  string
		a, b  byte
		carry bool
		r, f  byte
	}{
		{"the document's example", 0x3a, 0xc6, false, 0x00, z | h | c},
		{"no flag", 0x12, 0x34, false, 0x46, 0},
		{"nothing", 0, 0, false, 0, z},
		{"only the carry", 0, 0, true, 1, 0},
		{"lower bits at 15", 0x0e, 0x01, false, 0x0f, 0},
		{"lower bits at 16", 0x0f, 0x01, false, 0x10, h},
		{"lower bits at 15 and the carry", 0x0e, 0x01, true, 0x10, h},
		{"the carry beside f in b", 0x00, 0x0f, true, 0x10, h},
		{"sum at 255", 0xf0, 0x0f, false, 0xff, 0},
		{"sum at 256 by the carry", 0xf0, 0x0f, true, 0x00, z | h | c},
		{"sum above 255 by the upper bits", 0xf0, 0x20, false, 0x10, c},
		{"the carry beside ff in b", 0x01, 0xff, true, 0x01, h | c},
		{"largest sum", 0xff, 0xff, true, 0xff, h | c},
	} {
		if r, f := Add(x.a, x.b, x.carry); r != x.r || f != x.f {
			t.Errorf("%s: Add(%02x, %02x, %t) = %02x, %02x, want %02x, %02x", x.name, x.a, x.b, x.carry, r, f, x.r, x.f)
		}
	}
}

func TestSub(t *testing.T) {
	for _, x := range []struct {
		name  string
		a, b  byte
		carry bool
		r, f  byte
	}{
		{"only N", 0x46, 0x34, false, 0x12, n},
		{"equal", 0x3e, 0x3e, false, 0x00, z | n},
		{"equal, with the carry", 0x3e, 0x3e, true, 0xff, n | h | c},
		{"zero by the carry", 0x11, 0x10, true, 0x00, z | n},
		{"borrow at the lower bits", 0x10, 0x01, false, 0x0f, n | h},
		{"borrow at the lower bits by the carry", 0x10, 0x00, true, 0x0f, n | h},
		{"the carry beside f in b", 0x1f, 0x0f, true, 0x0f, n | h},
		{"borrow at the byte alone", 0x0f, 0x10, false, 0xff, n | c},
		{"borrow at the byte by the carry alone", 0x00, 0x00, true, 0xff, n | h | c},
		{"the carry beside ff in b", 0xff, 0xff, true, 0xff, n | h | c},
		{"the carry beside ff in b, down to 0", 0x00, 0xff, true, 0x00, z | n | h | c},
		{"smallest difference", 0x00, 0xff, false, 0x01, n | h | c},
	} {
		if r, f := Sub(x.a, x.b, x.carry); r != x.r || f != x.f {
			t.Errorf("%s: Sub(%02x, %02x, %t) = %02x, %02x, want %02x, %02x", x.name, x.a, x.b, x.carry, r, f, x.r, x.f)
		}
	}
}

func TestLogic(t *testing.T) {
	for _, x := range []struct {
		name string
		call func(a, b byte) (r, f byte)
		a, b byte
		r, f byte
	}{
		{"And", And, 0xfc, 0x3f, 0x3c, h},
		{"And", And, 0xf0, 0x0f, 0x00, z | h},
		{"And", And, 0xff, 0xff, 0xff, h},
		{"Or", Or, 0xf0, 0x3c, 0xfc, 0},
		{"Or", Or, 0x00, 0x00, 0x00, z},
		{"Or", Or, 0x00, 0x01, 0x01, 0},
		{"Xor", Xor, 0xf0, 0x3c, 0xcc, 0},
		{"Xor", Xor, 0x5a, 0x5a, 0x00, z},
		{"Xor", Xor, 0x00, 0x00, 0x00, z},
	} {
		if r, f := x.call(x.a, x.b); r != x.r || f != x.f {
			t.Errorf("%s(%02x, %02x) = %02x, %02x, want %02x, %02x", x.name, x.a, x.b, r, f, x.r, x.f)
		}
	}
}

func TestIncAndDec(t *testing.T) {
	for _, x := range []struct {
		name  string
		call  func(a, flags byte) (r, f byte)
		a     byte
		flags byte
		r, f  byte
	}{
		{"Inc", Inc, 0x12, 0x00, 0x13, 0},
		{"Inc", Inc, 0x0f, 0x00, 0x10, h},
		{"Inc", Inc, 0x1e, 0xef, 0x1f, 0},
		{"Inc", Inc, 0xff, 0x00, 0x00, z | h},
		{"Inc", Inc, 0xff, 0xff, 0x00, z | h | c},
		{"Inc", Inc, 0x7f, 0x1f, 0x80, h | c},
		{"Dec", Dec, 0x12, 0x00, 0x11, n},
		{"Dec", Dec, 0x10, 0x00, 0x0f, n | h},
		{"Dec", Dec, 0x11, 0xef, 0x10, n},
		{"Dec", Dec, 0x01, 0x00, 0x00, z | n},
		{"Dec", Dec, 0x01, 0xff, 0x00, z | n | c},
		{"Dec", Dec, 0x00, 0x1f, 0xff, n | h | c},
	} {
		if r, f := x.call(x.a, x.flags); r != x.r || f != x.f {
			t.Errorf("%s(%02x, %02x) = %02x, %02x, want %02x, %02x", x.name, x.a, x.flags, r, f, x.r, x.f)
		}
	}
}

func TestDaa(t *testing.T) {
	for _, x := range []struct {
		name     string
		a, flags byte
		r, f     byte
	}{
		{"the document's example", 0x7d, 0, 0x83, 0},
		{"already decimal", 0x42, 0, 0x42, 0},
		{"zero", 0x00, 0, 0x00, z},
		{"lower digit at 9", 0x09, 0, 0x09, 0},
		{"lower digit at a", 0x0a, 0, 0x10, 0},
		{"H alone", 0x12, h, 0x18, 0},
		{"at 99", 0x99, 0, 0x99, 0},
		{"at 9a", 0x9a, 0, 0x00, z | c},
		{"at a0", 0xa0, 0, 0x00, z | c},
		{"lower digit at f", 0x8f, 0, 0x95, 0},
		{"H takes it above 99, which does not count", 0x94, h, 0x9a, 0},
		{"C alone", 0x12, c, 0x72, c},
		{"H and C", 0x32, h | c, 0x98, c},
		{"all digits too large", 0xff, 0, 0x65, c},
		{"Z does not count", 0x12, z, 0x12, 0},
		{"lower four bits of the flags", 0x12, 0x0f, 0x12, 0},
		{"N alone", 0x42, n, 0x42, n},
		{"N and a large lower digit", 0x4f, n, 0x4f, n},
		{"N and a above 99", 0xff, n, 0xff, n},
		{"N and H", 0x4b, n | h, 0x45, n},
		{"N and C", 0xf2, n | c, 0x92, n | c},
		{"N, H and C", 0xff, n | h | c, 0x99, n | c},
		{"N and H, below 0", 0x03, n | h, 0xfd, n},
		{"N, H and C, below 0", 0x00, n | h | c, 0x9a, n | c},
		{"N and H, down to 0", 0x06, n | h, 0x00, z | n},
		{"N, H and C, down to 0, with all bits of the flags", 0x66, 0xff, 0x00, z | n | c},
	} {
		if r, f := Daa(x.a, x.flags); r != x.r || f != x.f {
			t.Errorf("%s: Daa(%02x, %02x) = %02x, %02x, want %02x, %02x", x.name, x.a, x.flags, r, f, x.r, x.f)
		}
	}
}

func TestTurn(t *testing.T) {
	for _, x := range []struct {
		kind     int
		a, flags byte
		r, f     byte
	}{
		{0, 0x85, 0, 0x0b, c},
		{0, 0x35, 0xff, 0x6a, 0},
		{0, 0x00, c, 0x00, z},
		{1, 0x35, 0, 0x9a, c},
		{1, 0x34, 0xff, 0x1a, 0},
		{1, 0x00, c, 0x00, z},
		{2, 0x85, 0, 0x0a, c},
		{2, 0x35, c, 0x6b, 0},
		{2, 0x80, 0xef, 0x00, z | c},
		{2, 0x00, c, 0x01, 0},
		{3, 0x35, 0, 0x1a, c},
		{3, 0x34, c, 0x9a, 0},
		{3, 0x01, 0xef, 0x00, z | c},
		{3, 0x00, c, 0x80, 0},
		{4, 0x85, 0xff, 0x0a, c},
		{4, 0x35, c, 0x6a, 0},
		{4, 0x80, 0, 0x00, z | c},
		{5, 0x85, 0, 0xc2, c},
		{5, 0x34, c, 0x1a, 0},
		{5, 0x01, 0, 0x00, z | c},
		{6, 0x85, 0xff, 0x58, 0},
		{6, 0xf0, 0, 0x0f, 0},
		{6, 0x00, c, 0x00, z},
		{7, 0x85, 0xff, 0x42, c},
		{7, 0x34, c, 0x1a, 0},
		{7, 0x01, 0, 0x00, z | c},
	} {
		// The kind is taken modulo 8, also from far away.
		for _, kind := range []int{x.kind, x.kind + 8, x.kind - 8, x.kind + 256, x.kind - 256, math.MinInt + x.kind, math.MaxInt - 7 + x.kind} {
			if r, f := Turn(kind, x.a, x.flags); r != x.r || f != x.f {
				t.Errorf("Turn(%d, %02x, %02x) = %02x, %02x, want %02x, %02x", kind, x.a, x.flags, r, f, x.r, x.f)
			}
		}
	}
}

func TestBit(t *testing.T) {
	for _, x := range []struct {
		n        int
		a, flags byte
		f        byte
	}{
		{0, 0x01, 0, h},
		{0, 0xfe, 0, z | h},
		{3, 0x08, 0xff, h | c},
		{3, 0xf7, 0xff, z | h | c},
		{7, 0x80, 0xef, h},
		{7, 0x7f, 0x0f, z | h},
		{4, 0x10, c, h | c},
		{5, 0x10, n | z, z | h},
	} {
		for _, n := range []int{x.n, x.n + 8, x.n - 8, x.n + 256, x.n - 256, math.MinInt + x.n, math.MaxInt - 7 + x.n} {
			if f := Bit(n, x.a, x.flags); f != x.f {
				t.Errorf("Bit(%d, %02x, %02x) = %02x, want %02x", n, x.a, x.flags, f, x.f)
			}
		}
	}
}

func TestAdd16(t *testing.T) {
	for _, x := range []struct {
		a, b  uint16
		flags byte
		r     uint16
		f     byte
	}{
		{0x1234, 0x1111, 0, 0x2345, 0},
		{0x1234, 0x1111, 0xff, 0x2345, z},
		{0x0000, 0x0000, 0x7f, 0x0000, 0},
		{0x0fff, 0x0000, 0, 0x0fff, 0},
		{0x0fff, 0x0001, 0, 0x1000, h},
		{0x00ff, 0x0001, 0, 0x0100, 0},
		{0xf000, 0x1000, 0, 0x0000, c},
		{0xf000, 0x0fff, 0, 0xffff, 0},
		{0xffff, 0x0001, 0, 0x0000, h | c},
		{0xffff, 0x0001, z, 0x0000, z | h | c},
		{0xffff, 0xffff, n, 0xfffe, h | c},
	} {
		if r, f := Add16(x.a, x.b, x.flags); r != x.r || f != x.f {
			t.Errorf("Add16(%04x, %04x, %02x) = %04x, %02x, want %04x, %02x", x.a, x.b, x.flags, r, f, x.r, x.f)
		}
	}
}

func TestShift16(t *testing.T) {
	for _, x := range []struct {
		a uint16
		e byte
		r uint16
		f byte
	}{
		{0x1234, 0x01, 0x1235, 0},
		{0x0000, 0x00, 0x0000, 0},
		{0x000f, 0x01, 0x0010, h},
		{0x00f0, 0x10, 0x0100, c},
		{0x00f0, 0x0f, 0x00ff, 0},
		{0x00ff, 0x01, 0x0100, h | c},
		{0xffff, 0x01, 0x0000, h | c},
		{0x0fff, 0x7f, 0x107e, h | c},
		{0x1200, 0x7f, 0x127f, 0},
		{0x0000, 0x80, 0xff80, 0},
		{0x0080, 0x80, 0x0000, c},
		{0x1234, 0x80, 0x11b4, 0},
		{0x1234, 0xff, 0x1233, h | c},
		{0x0000, 0xff, 0xffff, 0},
		{0x0001, 0xff, 0x0000, h | c},
		{0x0010, 0xff, 0x000f, c},
		{0x000f, 0xf1, 0x0000, h | c},
		{0x000f, 0x81, 0xff90, h},
	} {
		if r, f := Shift16(x.a, x.e); r != x.r || f != x.f {
			t.Errorf("Shift16(%04x, %02x) = %04x, %02x, want %04x, %02x", x.a, x.e, r, f, x.r, x.f)
		}
	}
}
