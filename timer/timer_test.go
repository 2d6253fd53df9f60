package timer

import (
	"math"
	"testing"
)

// ticked checks the result of Tick.
func ticked(t *testing.T, x, want Timer, request bool) {
	t.Helper()
	before := x
	got, asks := x.Tick()
	if got != want || asks != request {
		t.Errorf("Tick of %+v = %+v, %t, want %+v, %t", x, got, asks, want, request)
	}
	if x != before {
		t.Errorf("Tick changed %+v to %+v", before, x)
	}
}

// written checks the result of Write.
func written(t *testing.T, x Timer, n int, b byte, want Timer) {
	t.Helper()
	before := x
	if got := x.Write(n, b); got != want {
		t.Errorf("Write(%d, %02x) of %+v = %+v, want %+v", n, b, x, got, want)
	}
	if x != before {
		t.Errorf("Write(%d, %02x) changed %+v to %+v", n, b, before, x)
	}
}

// isRead checks the result of Read.
func isRead(t *testing.T, x Timer, n int, want byte) {
	t.Helper()
	before := x
	if got := x.Read(n); got != want {
		t.Errorf("Read(%d) of %+v = %02x, want %02x", n, x, got, want)
	}
	if x != before {
		t.Errorf("Read(%d) changed %+v to %+v", n, before, x)
	}
}

// TestExample: the example of the chapter.
func TestExample(t *testing.T) {
	x := Timer{Tac: 5, Tima: 0xff, Count: 12, Tma: 0x77}
	over := Timer{Tac: 5, Tima: 0, Count: 16, Tma: 0x77, Over: true}
	ticked(t, x, over, false)
	ticked(t, over, Timer{Tac: 5, Tima: 0x77, Count: 20, Tma: 0x77}, true)
}

func TestTick(t *testing.T) {
	for _, x := range []struct {
		timer, want Timer
		request     bool
	}{
		{Timer{}, Timer{Count: 4}, false},
		{Timer{Count: 0xfffc}, Timer{}, false},
		{Timer{Count: 0xfffe, Tima: 3, Tma: 4}, Timer{Count: 2, Tima: 3, Tma: 4}, false},
		{Timer{Tac: 5, Count: 4, Tima: 3}, Timer{Tac: 5, Count: 8, Tima: 3}, false},
		{Timer{Tac: 5, Count: 12, Tima: 3}, Timer{Tac: 5, Count: 16, Tima: 4}, false},
		{Timer{Tac: 5, Count: 11, Tima: 3}, Timer{Tac: 5, Count: 15, Tima: 3}, false},
		{Timer{Tac: 5, Count: 15, Tima: 3}, Timer{Tac: 5, Count: 19, Tima: 4}, false},
		{Timer{Tac: 6, Count: 60, Tima: 3}, Timer{Tac: 6, Count: 64, Tima: 4}, false},
		{Timer{Tac: 6, Count: 28, Tima: 3}, Timer{Tac: 6, Count: 32, Tima: 3}, false},
		{Timer{Tac: 7, Count: 252, Tima: 3}, Timer{Tac: 7, Count: 256, Tima: 4}, false},
		{Timer{Tac: 7, Count: 124, Tima: 3}, Timer{Tac: 7, Count: 128, Tima: 3}, false},
		{Timer{Tac: 4, Count: 1020, Tima: 3}, Timer{Tac: 4, Count: 1024, Tima: 4}, false},
		{Timer{Tac: 4, Count: 508, Tima: 3}, Timer{Tac: 4, Count: 512, Tima: 3}, false},
		{Timer{Tac: 4, Count: 0xfffc, Tima: 3}, Timer{Tac: 4, Tima: 4}, false},
		{Timer{Tac: 5, Count: 12, Tima: 0xff, Tma: 9}, Timer{Tac: 5, Count: 16, Tma: 9, Over: true}, false},
		{Timer{Tac: 5, Count: 12, Tima: 0xfe}, Timer{Tac: 5, Count: 16, Tima: 0xff}, false},
		{Timer{Over: true, Tima: 5, Tma: 9}, Timer{Count: 4, Tima: 9, Tma: 9}, true},
		{Timer{Over: true}, Timer{Count: 4}, true},
		{Timer{Tac: 5, Over: true, Tma: 9}, Timer{Tac: 5, Count: 4, Tima: 9, Tma: 9}, true},
	} {
		ticked(t, x.timer, x.want, x.request)
	}
}

// TestReloadComesFirst: a falling edge in the cycle after an overflow
// increments what was reloaded, and may overflow again.
func TestReloadComesFirst(t *testing.T) {
	x := Timer{Tac: 5, Count: 12, Over: true, Tima: 0xff, Tma: 9}
	ticked(t, x, Timer{Tac: 5, Count: 16, Tima: 10, Tma: 9}, true)
	x = Timer{Tac: 5, Count: 12, Over: true, Tima: 0, Tma: 0xff}
	want := Timer{Tac: 5, Count: 16, Tima: 0, Tma: 0xff, Over: true}
	ticked(t, x, want, true)
	ticked(t, want, Timer{Tac: 5, Count: 20, Tima: 0xff, Tma: 0xff}, true)
}

// TestNoIncrementWithoutBit2: P8.3's first sentence, with every other bit set.
func TestNoIncrementWithoutBit2(t *testing.T) {
	for _, tac := range []byte{0, 1, 2, 3, 0xf8, 0xf9, 0xfa, 0xfb} {
		x := Timer{Tac: tac, Tima: 0xff, Tma: 5}
		for i := range 1 << 15 {
			want := x
			want.Count = uint16(4 * (i + 1))
			ticked(t, x, want, false)
			x = want
		}
		if x.Tima != 0xff || x.Count != 0 {
			t.Errorf("Tac %02x: %+v", tac, x)
		}
	}
}

// TestFrequencies: P8.3's second sentence; Tima is incremented at just the
// right cycles, and an interrupt follows each overflow by one cycle.
func TestFrequencies(t *testing.T) {
	const tma = 0xf0
	for low, every := range []int{256, 4, 16, 64} {
		x := Timer{Tac: byte(4 + low), Tima: 0xfd, Tma: tma}
		tima, over, interrupts := byte(0xfd), false, 0
		for cycle := 1; cycle <= 1<<17; cycle++ {
			request := over
			if over {
				tima, over = tma, false
				interrupts++
			}
			if cycle%every == 0 {
				tima++
				over = tima == 0
			}
			var asks bool
			x, asks = x.Tick()
			want := Timer{Tac: byte(4 + low), Tima: tima, Tma: tma, Over: over, Count: uint16(4 * cycle)}
			if x != want || asks != request {
				t.Fatalf("cycle %d, Tac %d: %+v, %t, want %+v, %t", cycle, 4+low, x, asks, want, request)
			}
		}
		// The first overflow takes three increments, the others sixteen each.
		if want := 1 + (1<<17/every-3)/(0x100-tma); interrupts != want {
			t.Errorf("Tac %d: %d interrupts, want %d", 4+low, interrupts, want)
		}
	}
}

func TestRead(t *testing.T) {
	x := Timer{Count: 0x1234, Tima: 0x56, Tma: 0x78, Tac: 5, Over: true}
	for n, want := range []byte{0x12, 0x56, 0x78, 0xfd, 0xff} {
		isRead(t, x, n, want)
	}
	isRead(t, Timer{Count: 0xff}, 0, 0)
	isRead(t, Timer{Count: 0xff00}, 0, 0xff)
	for b := range 0x100 {
		isRead(t, Timer{Count: uint16(b) << 8}, 0, byte(b))
		isRead(t, Timer{Tima: byte(b)}, 1, byte(b))
		isRead(t, Timer{Tma: byte(b)}, 2, byte(b))
		isRead(t, Timer{Tac: byte(b)}, 3, byte(0xf8+b%8))
	}
}

// others are numbers that no byte of a timer has.
var others = []int{math.MinInt, -1 << 32, -256, -4, -3, -2, -1, 4, 5, 6, 7, 8, 255, 256, 257, 258, 259, 1 << 32, math.MaxInt}

// TestNoSuchByte: reading and writing bytes that there are not, even while the
// signal is 1.
func TestNoSuchByte(t *testing.T) {
	for _, x := range []Timer{
		{},
		{Count: 8, Tac: 5, Tima: 0xff, Tma: 3},
		{Count: 0xffff, Tac: 0xff, Tima: 0xff, Tma: 0xff, Over: true},
	} {
		for _, n := range others {
			isRead(t, x, n, 0xff)
			for _, b := range []byte{0, 1, 4, 0x80, 0xff} {
				written(t, x, n, b, x)
			}
		}
	}
}

// TestWriteOfDivider: whatever is written, the divider becomes 0.
func TestWriteOfDivider(t *testing.T) {
	for b := range 0x100 {
		x := Timer{Count: 0xfdf7, Tac: 5, Tima: 3, Tma: 4, Over: true}
		written(t, x, 0, byte(b), Timer{Tac: 5, Tima: 3, Tma: 4, Over: true})
		x = Timer{Count: 0x0208, Tac: 5, Tima: 3, Tma: 4}
		written(t, x, 0, byte(b), Timer{Tac: 5, Tima: 4, Tma: 4})
	}
}

// TestEdgeOfDivider: a write of the divider is a falling edge if the signal was
// 1, which needs bit 2 of Tac and the selected bit.
func TestEdgeOfDivider(t *testing.T) {
	for low, bit := range []int{9, 3, 5, 7} {
		count := uint16(1) << bit
		on, off := byte(4+low), byte(low)
		written(t, Timer{Count: count, Tac: on, Tima: 7}, 0, 1, Timer{Tac: on, Tima: 8})
		written(t, Timer{Count: ^count, Tac: on, Tima: 7}, 0, 1, Timer{Tac: on, Tima: 7})
		written(t, Timer{Count: count, Tac: off, Tima: 7}, 0, 1, Timer{Tac: off, Tima: 7})
		written(t, Timer{Count: 0xffff, Tac: off, Tima: 7}, 0, 1, Timer{Tac: off, Tima: 7})
		written(t, Timer{Count: count, Tac: on, Tima: 0xff, Tma: 5}, 0, 1, Timer{Tac: on, Tma: 5, Over: true})
		written(t, Timer{Tac: on, Tima: 7}, 0, 1, Timer{Tac: on, Tima: 7})
	}
}

// TestEdgeOfControl: a write of Tac is a falling edge if the signal was 1 and
// is not any more.
func TestEdgeOfControl(t *testing.T) {
	for _, x := range []struct {
		timer Timer
		b     byte
		want  Timer
	}{
		{Timer{Count: 8, Tac: 5, Tima: 3}, 1, Timer{Count: 8, Tac: 1, Tima: 4}},
		{Timer{Count: 8, Tac: 5, Tima: 3}, 0, Timer{Count: 8, Tac: 0, Tima: 4}},
		{Timer{Count: 8, Tac: 5, Tima: 3}, 4, Timer{Count: 8, Tac: 4, Tima: 4}},
		{Timer{Count: 8, Tac: 5, Tima: 3}, 5, Timer{Count: 8, Tac: 5, Tima: 3}},
		{Timer{Count: 8, Tac: 5, Tima: 3}, 0xfd, Timer{Count: 8, Tac: 5, Tima: 3}},
		{Timer{Count: 8, Tac: 5, Tima: 3}, 0xff, Timer{Count: 8, Tac: 7, Tima: 4}},
		{Timer{Count: 0x28, Tac: 5, Tima: 3}, 6, Timer{Count: 0x28, Tac: 6, Tima: 3}},
		{Timer{Count: 0x28, Tac: 6, Tima: 3}, 7, Timer{Count: 0x28, Tac: 7, Tima: 4}},
		{Timer{Count: 0x28, Tac: 7, Tima: 3}, 5, Timer{Count: 0x28, Tac: 5, Tima: 3}},
		{Timer{Count: 8, Tac: 1, Tima: 3}, 5, Timer{Count: 8, Tac: 5, Tima: 3}},
		{Timer{Count: 8, Tac: 1, Tima: 3}, 0, Timer{Count: 8, Tac: 0, Tima: 3}},
		{Timer{Count: 0x200, Tac: 4, Tima: 3}, 0, Timer{Count: 0x200, Tima: 4}},
		{Timer{Count: 0x80, Tac: 7, Tima: 3}, 3, Timer{Count: 0x80, Tac: 3, Tima: 4}},
		{Timer{Count: 0x20, Tac: 6, Tima: 0xff, Tma: 8}, 2, Timer{Count: 0x20, Tac: 2, Tma: 8, Over: true}},
		{Timer{Count: 0xfdf7, Tac: 5, Tima: 3}, 0, Timer{Count: 0xfdf7, Tima: 3}},
	} {
		written(t, x.timer, 3, x.b, x.want)
	}
}

// TestOverflowByWrite: the interrupt follows an overflow that a write caused,
// too, and the next cycle reloads Tima even if the timer is off.
func TestOverflowByWrite(t *testing.T) {
	x := Timer{Count: 8, Tac: 5, Tima: 0xff, Tma: 0x42}
	ticked(t, x.Write(0, 0), Timer{Count: 4, Tac: 5, Tima: 0x42, Tma: 0x42}, true)
	ticked(t, x.Write(3, 0), Timer{Count: 12, Tima: 0x42, Tma: 0x42}, true)
}

// TestWritesAfterOverflow: which writes in the cycle between the overflow and
// the interrupt change what follows.
func TestWritesAfterOverflow(t *testing.T) {
	x := Timer{Count: 16, Tac: 5, Tma: 0x42, Over: true}
	cancelled := Timer{Count: 16, Tac: 5, Tima: 9, Tma: 0x42}
	written(t, x, 1, 9, cancelled)
	ticked(t, cancelled, Timer{Count: 20, Tac: 5, Tima: 9, Tma: 0x42}, false)
	reload := Timer{Count: 16, Tac: 5, Tma: 0x43, Over: true}
	written(t, x, 2, 0x43, reload)
	ticked(t, reload, Timer{Count: 20, Tac: 5, Tima: 0x43, Tma: 0x43}, true)
	off := Timer{Count: 16, Tma: 0x42, Over: true}
	written(t, x, 3, 0, off)
	ticked(t, off, Timer{Count: 20, Tima: 0x42, Tma: 0x42}, true)
	divider := Timer{Tac: 5, Tma: 0x42, Over: true}
	written(t, x, 0, 0, divider)
	ticked(t, divider, Timer{Count: 4, Tac: 5, Tima: 0x42, Tma: 0x42}, true)
}

// TestEdgeAfterOverflow: an increment by a write in that cycle leaves Over set.
func TestEdgeAfterOverflow(t *testing.T) {
	x := Timer{Count: 8, Tac: 5, Tima: 0, Tma: 0x42, Over: true}
	written(t, x, 0, 0, Timer{Tac: 5, Tima: 1, Tma: 0x42, Over: true})
	written(t, x, 3, 0, Timer{Count: 8, Tima: 1, Tma: 0x42, Over: true})
}

// TestWriteOfCounterAndReload: every byte, while the signal is 1 and while it
// is 0; neither write is an edge, nor is 0 an overflow.
func TestWriteOfCounterAndReload(t *testing.T) {
	for b := range 0x100 {
		for _, count := range []uint16{0, 8} {
			for _, over := range []bool{false, true} {
				x := Timer{Count: count, Tac: 5, Tima: 0xff, Tma: 0x42, Over: over}
				written(t, x, 1, byte(b), Timer{Count: count, Tac: 5, Tima: byte(b), Tma: 0x42})
				written(t, x, 2, byte(b), Timer{Count: count, Tac: 5, Tima: 0xff, Tma: byte(b), Over: over})
			}
		}
	}
}
