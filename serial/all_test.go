package serial

import (
	"math"
	"strconv"
	"strings"
	"testing"
)

// The tests of this file hold the functions against a second reading of the
// document, in texts of bits and plain numbers.

// digits returns the eight bits of a byte, bit 7 first.
func digits(x byte) string {
	text := strconv.FormatInt(int64(x), 2)
	return strings.Repeat("0", 8-len(text)) + text
}

// fromDigits returns the byte with these bits.
func fromDigits(text string) byte {
	x, err := strconv.ParseUint(text, 2, 8)
	if err != nil {
		panic(err)
	}
	return byte(x)
}

// wantTick returns what Tick should return.
func wantTick(p Port) (Port, bool) {
	switch {
	case p.Bits < 1:
		return p, false
	case p.Count != 127:
		p.Count++
		return p, false
	}
	p.Count = 0
	p.Data = fromDigits(digits(p.Data)[1:] + "1")
	p.Bits--
	if p.Bits != 0 {
		return p, false
	}
	p.Control = fromDigits("0" + digits(p.Control)[1:])
	return p, true
}

// wantRead returns what Read should return.
func wantRead(p Port, n int) byte {
	if n == 0 {
		return p.Data
	}
	if n == 1 {
		control := digits(p.Control)
		return fromDigits(control[:1] + "111111" + control[7:])
	}
	return 255
}

// wantWrite returns what Write should return.
func wantWrite(p Port, n int, x byte) Port {
	if n == 0 {
		p.Data = x
	}
	if n != 1 {
		return p
	}
	bits := digits(x)
	p.Control = fromDigits(bits[:1] + "000000" + bits[7:])
	p.Bits = 0
	if x >= 128 && x%2 == 1 {
		p.Bits, p.Count, p.Last = 8, 0, p.Data
		p.Sent = ((p.Sent+1)%65536 + 65536) % 65536
	}
	return p
}

// numbers returns a function that returns other numbers in each call, the same
// in each run.
func numbers() func(below int) int {
	x := uint64(1)
	return func(below int) int {
		x = x*6364136223846793005 + 1442695040888963407
		return int(x>>33) % below
	}
}

// everyBits calls a function for ports with every number of bits, every count
// and some numbers outside of these.
func everyBits(look func(bits, count int)) {
	for bits := -2; bits <= 10; bits++ {
		for count := -2; count <= 258; count++ {
			look(bits, count)
		}
	}
	for _, bits := range []int{math.MinInt, math.MaxInt} {
		for _, count := range []int{math.MinInt, -1, 0, 127, math.MaxInt} {
			look(bits, count)
		}
	}
}

func TestEveryTick(t *testing.T) {
	everyBits(func(bits, count int) {
		for data := range 0x100 {
			p := Port{
				Data: byte(data), Control: byte(data + count*0x41), Last: byte(data * 3),
				Bits: bits, Count: count, Sent: data * 0x101,
			}
			want, request := wantTick(p)
			ticked(t, p, want, request)
		}
	})
}

// TestEveryLastBit: the last bit, with every data byte and every control byte.
func TestEveryLastBit(t *testing.T) {
	for data := range 0x100 {
		for control := range 0x100 {
			p := Port{Data: byte(data), Control: byte(control), Last: 0x5a, Bits: 1, Count: 127, Sent: 3}
			want, request := wantTick(p)
			ticked(t, p, want, request)
		}
	}
}

func TestEveryRead(t *testing.T) {
	for n := -3; n <= 5; n++ {
		for data := range 0x100 {
			for control := range 0x100 {
				p := Port{Data: byte(data), Control: byte(control), Last: byte(data ^ control), Bits: n, Count: n, Sent: n}
				isRead(t, p, n, wantRead(p, n))
			}
		}
	}
}

func TestEveryWrite(t *testing.T) {
	for n := -3; n <= 5; n++ {
		for data := range 0x100 {
			for x := range 0x100 {
				p := Port{
					Data: byte(data), Control: byte(data * 5), Last: byte(data ^ x),
					Bits: x % 10, Count: data % 129, Sent: data * 0x101,
				}
				written(t, p, n, byte(x), wantWrite(p, n, byte(x)))
			}
		}
	}
}

// TestEveryCycle: each cycle of each byte, from its data byte alone.
func TestEveryCycle(t *testing.T) {
	for data := range 0x100 {
		p := Port{Sent: data}.Write(0, byte(data)).Write(1, 0x81)
		for cycle := range 1024 {
			gone := cycle / 128
			want := Port{
				Data:    fromDigits(digits(byte(data))[gone:] + strings.Repeat("1", gone)),
				Control: 0x81, Last: byte(data),
				Bits: 8 - gone, Count: cycle % 128, Sent: data + 1,
			}
			if p != want {
				t.Fatalf("byte %02x after %d cycles: %+v, want %+v", data, cycle, p, want)
			}
			p, _ = p.Tick()
		}
	}
}

// TestVariedRuns: runs of calls from the zero value.
func TestVariedRuns(t *testing.T) {
	number := numbers()
	controls := []byte{0x00, 0x01, 0x80, 0x81, 0x81, 0x81, 0xff, 0x7e}
	for range 300 {
		var p Port
		for range 200 {
			n, x := number(4)-1, byte(number(256))
			if n == 1 {
				x = controls[number(len(controls))]
			}
			want := wantWrite(p, n, x)
			written(t, p, n, x, want)
			p = want
			for range number(2) * number(1200) {
				want, request := wantTick(p)
				ticked(t, p, want, request)
				p = want
			}
			isRead(t, p, 0, wantRead(p, 0))
			isRead(t, p, 1, wantRead(p, 1))
		}
	}
}
