package timer

import "testing"

// The tests of this file hold the functions against a second reading of the
// document, in plain numbers.

// periods are the numbers that the divider counts between two falling edges,
// for the lower two bits of Tac: the signal is 1 in the second half of each.
var periods = [4]int{1024, 16, 64, 256}

// wantSignal returns what the signal should be.
func wantSignal(x Timer) bool {
	if x.Tac/4%2 == 0 {
		return false
	}
	period := periods[x.Tac%4]
	return int(x.Count)%period*2 >= period
}

// wantIncrement returns the timer with Tima incremented.
func wantIncrement(x Timer) Timer {
	if x.Tima == 255 {
		x.Tima, x.Over = 0, true
	} else {
		x.Tima++
	}
	return x
}

// wantTick returns what Tick should return: the divider has reached another
// period exactly if there was a falling edge.
func wantTick(x Timer) (Timer, bool) {
	request := x.Over
	if request {
		x.Tima, x.Over = x.Tma, false
	}
	before := int(x.Count)
	after := before + 4
	x.Count = uint16(after % 65536)
	period := periods[x.Tac%4]
	if x.Tac/4%2 == 1 && after/period != before/period {
		x = wantIncrement(x)
	}
	return x, request
}

// wantWrite returns what Write should return.
func wantWrite(x Timer, n int, b byte) Timer {
	y := x
	switch n {
	case 0:
		y.Count = 0
	case 1:
		y.Tima, y.Over = b, false
	case 2:
		y.Tma = b
	case 3:
		y.Tac = b % 8
	}
	if (n == 0 || n == 3) && wantSignal(x) && !wantSignal(y) {
		y = wantIncrement(y)
	}
	return y
}

// wantRead returns what Read should return.
func wantRead(x Timer, n int) byte {
	switch n {
	case 0:
		return byte(int(x.Count) / 256)
	case 1:
		return x.Tima
	case 2:
		return x.Tma
	case 3:
		return 248 + x.Tac%8
	}
	return 255
}

// numbers returns a function that returns other numbers in each call, the same
// in each run.
func numbers() func(below int) int {
	x := uint64(1)
	return func(below int) int {
		x = x*6364136223846793005 + 1442695040888963407
		return int(x>>33) % below
	}
}

// someTimas are the counters and reload values of the tests that try all
// dividers.
var someTimas = []byte{0, 0x7f, 0xfe, 0xff}

// everyTimer calls a function for timers with every divider and every control
// register.
func everyTimer(look func(Timer)) {
	for count := range 0x10000 {
		for tac := range byte(8) {
			for i, tima := range someTimas {
				x := Timer{Count: uint16(count), Tac: tac, Tima: tima, Tma: someTimas[(i+count)%len(someTimas)]}
				look(x)
				x.Over = true
				look(x)
			}
		}
	}
}

func TestEveryTick(t *testing.T) {
	everyTimer(func(x Timer) {
		want, request := wantTick(x)
		got, asks := x.Tick()
		if got != want || asks != request {
			t.Fatalf("Tick of %+v = %+v, %t, want %+v, %t", x, got, asks, want, request)
		}
	})
}

func TestEveryWrite(t *testing.T) {
	everyTimer(func(x Timer) {
		for b := range byte(8) {
			got, want := x.Write(3, b), wantWrite(x, 3, b)
			if got != want {
				t.Fatalf("Write(3, %d) of %+v = %+v, want %+v", b, x, got, want)
			}
		}
		for n := range 3 {
			b := byte(x.Count) ^ x.Tima
			got, want := x.Write(n, b), wantWrite(x, n, b)
			if got != want {
				t.Fatalf("Write(%d, %02x) of %+v = %+v, want %+v", n, b, x, got, want)
			}
		}
	})
}

// varied returns a timer whose fields may be anything that a caller can set.
func varied(number func(int) int) Timer {
	return Timer{
		Count: uint16(number(0x10000)),
		Tima:  byte(number(256)) | byte(number(2)*0xff),
		Tma:   byte(number(256)),
		Tac:   byte(number(256)),
		Over:  number(4) == 0,
	}
}

// TestVaried: upper bits of Tac that a caller set count for nothing, in Tick
// and in Read, and only a write of Tac clears them.
func TestVaried(t *testing.T) {
	number := numbers()
	for range 500000 {
		x := varied(number)
		want, request := wantTick(x)
		ticked(t, x, want, request)
		n, b := number(8)-2, byte(number(256))
		written(t, x, n, b, wantWrite(x, n, b))
		isRead(t, x, n, wantRead(x, n))
		if t.Failed() {
			return
		}
	}
}

// TestRuns: what many calls lead to, from the zero value on.
func TestRuns(t *testing.T) {
	number := numbers()
	requests := 0
	for range 2000 {
		var x Timer
		for range 2000 {
			if number(20) == 0 {
				n, b := number(5), byte(number(256))
				if n == 1 || n == 2 {
					b |= 0xf0
				}
				want := wantWrite(x, n, b)
				written(t, x, n, b, want)
				x = want
			}
			want, request := wantTick(x)
			ticked(t, x, want, request)
			if request {
				requests++
			}
			n := number(6) - 1
			isRead(t, want, n, wantRead(want, n))
			if t.Failed() {
				return
			}
			x = want
		}
	}
	if requests < 1000 {
		t.Errorf("only %d interrupts", requests)
	}
}
