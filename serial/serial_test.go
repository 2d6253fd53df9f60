package serial

import (
	"math"
	"testing"
)

// ticked checks the result of Tick.
func ticked(t *testing.T, p, want Port, request bool) {
	t.Helper()
	before := p
	got, asks := p.Tick()
	if got != want || asks != request {
		t.Errorf("Tick of %+v = %+v, %t, want %+v, %t", p, got, asks, want, request)
	}
	if p != before {
		t.Errorf("Tick changed %+v to %+v", before, p)
	}
}

// isRead checks the result of Read.
func isRead(t *testing.T, p Port, n int, want byte) {
	t.Helper()
	before := p
	if got := p.Read(n); got != want {
		t.Errorf("Read(%d) of %+v = %02x, want %02x", n, p, got, want)
	}
	if p != before {
		t.Errorf("Read(%d) changed %+v to %+v", n, before, p)
	}
}

// written checks the result of Write.
func written(t *testing.T, p Port, n int, x byte, want Port) {
	t.Helper()
	before := p
	if got := p.Write(n, x); got != want {
		t.Errorf("Write(%d, %02x) of %+v = %+v, want %+v", n, x, p, got, want)
	}
	if p != before {
		t.Errorf("Write(%d, %02x) changed %+v to %+v", n, x, before, p)
	}
}

// after returns the port after some cycles, and how many interrupts were
// requested.
func after(p Port, cycles int) (Port, int) {
	interrupts := 0
	for range cycles {
		var request bool
		p, request = p.Tick()
		if request {
			interrupts++
		}
	}
	return p, interrupts
}

// TestExample: the example of the chapter.
func TestExample(t *testing.T) {
	p := Port{}.Write(0, 0x41).Write(1, 0x81)
	for cycle := 1; cycle <= 1024; cycle++ {
		var request bool
		p, request = p.Tick()
		if request != (cycle == 1024) {
			t.Errorf("cycle %d: interrupt %t", cycle, request)
		}
	}
	isRead(t, p, 1, 0x7f)
	isRead(t, p, 0, 0xff)
}

func TestTick(t *testing.T) {
	for _, x := range []struct {
		port, want Port
		request    bool
	}{
		{Port{Bits: 8, Data: 0x41}, Port{Bits: 8, Data: 0x41, Count: 1}, false},
		{Port{Bits: 8, Count: 126}, Port{Bits: 8, Count: 127}, false},
		// A bit is sent: 1 comes in, and bit 7 goes.
		{Port{Bits: 8, Count: 127}, Port{Bits: 7, Data: 0x01}, false},
		{Port{Bits: 8, Count: 127, Data: 0x41}, Port{Bits: 7, Data: 0x83}, false},
		{Port{Bits: 7, Count: 127, Data: 0x83}, Port{Bits: 6, Data: 0x07}, false},
		{Port{Bits: 2, Count: 127, Data: 0x80, Control: 0x81}, Port{Bits: 1, Data: 0x01, Control: 0x81}, false},
		// The last bit.
		{Port{Bits: 1, Count: 126, Control: 0x81}, Port{Bits: 1, Count: 127, Control: 0x81}, false},
		{Port{Bits: 1, Count: 127, Control: 0x81}, Port{Data: 0x01, Control: 0x01}, true},
		{Port{Bits: 1, Count: 127, Data: 0x7f, Control: 0x80}, Port{Data: 0xff}, true},
		{Port{Bits: 1, Count: 127, Data: 0xff}, Port{Data: 0xff}, true},
		// What was sent stays.
		{
			Port{Bits: 1, Count: 127, Control: 0x81, Last: 0x55, Sent: 7},
			Port{Data: 0x01, Control: 0x01, Last: 0x55, Sent: 7}, true,
		},
		{Port{Bits: 3, Count: 127, Last: 0x55, Sent: 7}, Port{Bits: 2, Data: 0x01, Last: 0x55, Sent: 7}, false},
	} {
		ticked(t, x.port, x.want, x.request)
	}
}

// TestNotSending: a port that is not sending stays as it is, whatever its
// control byte and its count.
func TestNotSending(t *testing.T) {
	for _, bits := range []int{0, -1, -8, math.MinInt} {
		for _, control := range []byte{0x00, 0x01, 0x80, 0x81, 0xff} {
			for _, count := range []int{0, 1, 126, 127, 128, -1, math.MaxInt, math.MinInt} {
				p := Port{Data: 0x41, Control: control, Last: 9, Bits: bits, Count: count, Sent: 7}
				ticked(t, p, p, false)
			}
		}
	}
	ticked(t, Port{}, Port{}, false)
}

// TestTickOfOtherFields: fields that no call sets. Only a count that becomes
// 128 sends a bit, and only bit 7 of the control byte is cleared.
func TestTickOfOtherFields(t *testing.T) {
	ticked(t, Port{Bits: 8, Count: 128}, Port{Bits: 8, Count: 129}, false)
	ticked(t, Port{Bits: 8, Count: -1}, Port{Bits: 8}, false)
	ticked(t, Port{Bits: 8, Count: -128}, Port{Bits: 8, Count: -127}, false)
	ticked(t, Port{Bits: 1, Count: 1023}, Port{Bits: 1, Count: 1024}, false)
	ticked(t, Port{Bits: 1, Count: math.MinInt}, Port{Bits: 1, Count: math.MinInt + 1}, false)
	ticked(t, Port{Bits: 9, Count: 127}, Port{Bits: 8, Data: 0x01}, false)
	ticked(t, Port{Bits: math.MaxInt, Count: 127}, Port{Bits: math.MaxInt - 1, Data: 0x01}, false)
	ticked(t, Port{Bits: 1, Count: 127, Control: 0xff}, Port{Data: 0x01, Control: 0x7f}, true)
	ticked(t, Port{Bits: 2, Count: 127, Control: 0xff}, Port{Bits: 1, Data: 0x01, Control: 0xff}, false)
	ticked(t, Port{Bits: 1, Count: 127, Sent: -3}, Port{Data: 0x01, Sent: -3}, true)
}

func TestRead(t *testing.T) {
	for _, x := range []struct {
		port Port
		n    int
		want byte
	}{
		{Port{}, 0, 0x00},
		{Port{Data: 0x41, Control: 0x81, Last: 0x12}, 0, 0x41},
		{Port{Data: 0xff}, 0, 0xff},
		{Port{}, 1, 0x7e},
		{Port{Control: 0x01}, 1, 0x7f},
		{Port{Control: 0x80}, 1, 0xfe},
		{Port{Control: 0x81}, 1, 0xff},
		{Port{Control: 0x7e, Data: 0x81}, 1, 0x7e},
		{Port{Control: 0xff}, 1, 0xff},
	} {
		isRead(t, x.port, x.n, x.want)
	}
}

func TestWriteData(t *testing.T) {
	written(t, Port{}, 0, 0x41, Port{Data: 0x41})
	written(t, Port{Data: 0xff}, 0, 0, Port{})
	written(t, Port{Control: 0x81}, 0, 0x81, Port{Control: 0x81, Data: 0x81})
	// While a byte is sent, the sending goes on with the new one.
	p := Port{Data: 0x83, Control: 0x81, Last: 0x41, Bits: 7, Count: 5, Sent: 1}
	want := p
	want.Data = 0x12
	written(t, p, 0, 0x12, want)
	p, interrupts := after(want, 123)
	if p != (Port{Data: 0x25, Control: 0x81, Last: 0x41, Bits: 6, Sent: 1}) || interrupts != 0 {
		t.Errorf("the next bit: %+v, %d interrupts", p, interrupts)
	}
}

func TestWriteControl(t *testing.T) {
	idle := Port{Data: 0x41, Last: 9, Sent: 7, Count: 5}
	sending := Port{Data: 0x41, Control: 0x81, Last: 9, Bits: 3, Count: 5, Sent: 7}
	started := Port{Data: 0x41, Control: 0x81, Last: 0x41, Bits: 8, Sent: 8}
	for _, x := range []struct {
		port Port
		x    byte
		want Port
	}{
		{Port{}, 0x81, Port{Control: 0x81, Bits: 8, Sent: 1}},
		{idle, 0x81, started},
		{idle, 0xff, started},
		{sending, 0x81, started},
		{sending, 0xff, started},
		// Just one of the two bits, or none.
		{idle, 0x80, Port{Data: 0x41, Control: 0x80, Last: 9, Sent: 7, Count: 5}},
		{idle, 0x01, Port{Data: 0x41, Control: 0x01, Last: 9, Sent: 7, Count: 5}},
		{idle, 0x00, idle},
		{idle, 0x7e, idle},
		{idle, 0xfe, Port{Data: 0x41, Control: 0x80, Last: 9, Sent: 7, Count: 5}},
		{idle, 0x7f, Port{Data: 0x41, Control: 0x01, Last: 9, Sent: 7, Count: 5}},
		{sending, 0x80, Port{Data: 0x41, Control: 0x80, Last: 9, Sent: 7, Count: 5}},
		{sending, 0x01, Port{Data: 0x41, Control: 0x01, Last: 9, Sent: 7, Count: 5}},
		{sending, 0x00, idle},
		// Control bits and bits to send that only a caller can set.
		{Port{Control: 0xff}, 0x00, Port{}},
		{Port{Control: 0xff}, 0x81, Port{Control: 0x81, Bits: 8, Sent: 1}},
		{Port{Bits: -3, Count: -9}, 0x01, Port{Control: 0x01, Count: -9}},
		{Port{Bits: -3, Count: -9}, 0x81, Port{Control: 0x81, Bits: 8, Sent: 1}},
		{Port{Bits: 99, Count: 999}, 0x80, Port{Control: 0x80, Count: 999}},
	} {
		written(t, x.port, 1, x.x, x.want)
	}
}

// TestSent: the number of bytes sent is taken modulo 65536.
func TestSent(t *testing.T) {
	for _, x := range []struct{ sent, want int }{
		{0, 1}, {1, 2}, {0xfe, 0xff}, {0xff, 0x100}, {0x7fff, 0x8000}, {0xfffe, 0xffff}, {0xffff, 0},
		// Numbers that only a caller can set.
		{0x10000, 1}, {0x1ffff, 0}, {-1, 0}, {-2, 0xffff}, {-0x10000, 1},
		{math.MaxInt, 0}, {math.MinInt, 1},
	} {
		written(t, Port{Sent: x.sent}, 1, 0x81, Port{Control: 0x81, Bits: 8, Sent: x.want})
	}
	p := Port{}
	for i := range 0x20001 {
		if p.Sent != i%0x10000 {
			t.Fatalf("after %d bytes: Sent %d", i, p.Sent)
		}
		p = p.Write(1, 0x81)
	}
}

// TestOtherNumbers: there are no other bytes.
func TestOtherNumbers(t *testing.T) {
	ports := []Port{
		{},
		{Data: 0x41, Control: 0x81, Last: 9, Bits: 3, Count: 5, Sent: 7},
		{Data: 0x41, Control: 0x01, Last: 9, Sent: 0xffff},
	}
	for _, p := range ports {
		for _, n := range []int{
			-1, 2, 3, 4, 0x100, 0x101, 0xff01, 1 << 32, 1<<32 + 1,
			-255, -256, math.MaxInt, math.MinInt, math.MinInt + 1,
		} {
			isRead(t, p, n, 0xff)
			for _, x := range []byte{0, 1, 0x80, 0x81, 0xff} {
				written(t, p, n, x, p)
			}
		}
	}
}

// TestWholeByte: P10.3, for every byte, and then nothing more.
func TestWholeByte(t *testing.T) {
	for data := range 0x100 {
		p := Port{}.Write(0, byte(data)).Write(1, 0x81)
		before, interrupts := after(p, 1023)
		if interrupts != 0 || before.Bits != 1 || before.Count != 127 {
			t.Errorf("byte %02x: %+v after 1023 cycles, %d interrupts", data, before, interrupts)
		}
		want := Port{Data: 0xff, Control: 0x01, Last: byte(data), Sent: 1}
		ticked(t, before, want, true)
		later, interrupts := after(want, 3000)
		if later != want || interrupts != 0 {
			t.Errorf("byte %02x: %+v later, %d interrupts", data, later, interrupts)
		}
	}
}

// TestBeginAgain: a byte that is begun again takes its whole time, and the last
// byte is what was left of the first.
func TestBeginAgain(t *testing.T) {
	for cycles := range 1024 {
		p, _ := after(Port{}.Write(0, 0x41).Write(1, 0x81), cycles)
		left := p.Data
		p, interrupts := after(p.Write(1, 0x81), 1023)
		if interrupts != 0 {
			t.Errorf("begun again after %d cycles: %d interrupts", cycles, interrupts)
		}
		ticked(t, p, Port{Data: 0xff, Control: 0x01, Last: left, Sent: 2}, true)
	}
}

// TestBreakOff: a byte that is broken off requests no interrupt.
func TestBreakOff(t *testing.T) {
	for cycles := range 1024 {
		p, _ := after(Port{}.Write(0, 0x41).Write(1, 0x81), cycles)
		want := p
		want.Control, want.Bits = 0x01, 0
		written(t, p, 1, 0x01, want)
		later, interrupts := after(want, 2000)
		if later != want || interrupts != 0 {
			t.Errorf("broken off after %d cycles: %+v later, %d interrupts", cycles, later, interrupts)
		}
	}
}
