package clock

import (
	"math"
	"testing"
)

// held stands for registers that were latched, to be found unchanged.
var held = [5]byte{1, 2, 3, 4, 5}

// ticked checks the result of Tick.
func ticked(t *testing.T, c Clock, cycles int, want Clock) {
	t.Helper()
	before := c
	if got := c.Tick(cycles); got != want {
		t.Errorf("Tick(%d) of %+v = %+v, want %+v", cycles, c, got, want)
	}
	if c != before {
		t.Errorf("Tick(%d) changed %+v to %+v", cycles, before, c)
	}
}

// written checks the result of Write.
func written(t *testing.T, c Clock, part int, x byte, want Clock) {
	t.Helper()
	before := c
	if got := c.Write(part, x); got != want {
		t.Errorf("Write(%d, %02x) of %+v = %+v, want %+v", part, x, c, got, want)
	}
	if c != before {
		t.Errorf("Write(%d, %02x) changed %+v to %+v", part, x, before, c)
	}
}

// latched checks the result of Hold, which changes nothing but the latched
// registers.
func latched(t *testing.T, c Clock, registers [5]byte) {
	t.Helper()
	before, want := c, c
	want.Held = registers
	got := c.Hold()
	if got != want {
		t.Errorf("Hold of %+v = %+v, want %+v", c, got, want)
	}
	if c != before {
		t.Errorf("Hold changed %+v to %+v", before, c)
	}
	for part, x := range registers {
		if y := got.Read(part); y != x {
			t.Errorf("Read(%d) of %+v = %02x, want %02x", part, got, y, x)
		}
	}
}

// TestExample: the example of the chapter.
func TestExample(t *testing.T) {
	ticked(t, Clock{S: 59}, Second, Clock{M: 1})
}

// TestSecond: a second has 2^20 cycles.
func TestSecond(t *testing.T) {
	if Second != 1048576 {
		t.Errorf("Second is %d", Second)
	}
}

func TestTick(t *testing.T) {
	for _, x := range []struct {
		c      Clock
		cycles int
		want   Clock
	}{
		{Clock{}, 1, Clock{Sub: 1}},
		{Clock{}, Second - 1, Clock{Sub: Second - 1}},
		{Clock{}, Second, Clock{S: 1}},
		{Clock{}, Second + 1, Clock{S: 1, Sub: 1}},
		{Clock{Sub: Second - 1}, 1, Clock{S: 1}},
		{Clock{Sub: Second - 1}, Second - 1, Clock{S: 1, Sub: Second - 2}},
		{Clock{Sub: Second - 1}, Second + 1, Clock{S: 2}},
		{Clock{Sub: 5}, 7 * Second, Clock{S: 7, Sub: 5}},
		{Clock{S: 58}, Second, Clock{S: 59}},
		{Clock{S: 59, M: 58}, Second, Clock{M: 59}},
		{Clock{S: 59, M: 59}, Second, Clock{H: 1}},
		{Clock{S: 58, M: 59}, Second, Clock{S: 59, M: 59}},
		{Clock{S: 59, M: 59, H: 22}, Second, Clock{H: 23}},
		{Clock{S: 59, M: 59, H: 23}, Second, Clock{Day: 1}},
		{Clock{S: 59, M: 59, H: 23, Day: 255}, Second, Clock{Day: 256}},
		{Clock{S: 59, M: 59, H: 23, Day: 510}, Second, Clock{Day: 511}},
		{Clock{S: 59, M: 59, H: 23, Day: 511}, Second, Clock{Carry: true}},
		{Clock{S: 59, M: 59, H: 23, Day: 511}, Second - 1, Clock{S: 59, M: 59, H: 23, Day: 511, Sub: Second - 1}},
		{Clock{S: 30}, 60 * Second, Clock{S: 30, M: 1}},
		{Clock{S: 30, M: 50}, 1000 * Second, Clock{S: 10, M: 7, H: 1}},
		{Clock{S: 59, M: 59, H: 23, Day: 511, Sub: 9}, 1024 * Second, Clock{S: 3, M: 17, Sub: 9, Carry: true}},
	} {
		ticked(t, x.c, x.cycles, x.want)
		x.c.Held, x.want.Held = held, held
		ticked(t, x.c, x.cycles, x.want)
	}
}

// TestAboveTheirEnds: seconds, minutes and hours that were written above their
// ends go on to 64 or 32, from where on nothing else is incremented.
func TestAboveTheirEnds(t *testing.T) {
	for _, x := range []struct {
		c       Clock
		seconds int
		want    Clock
	}{
		{Clock{S: 60, M: 59, H: 23}, 1, Clock{S: 61, M: 59, H: 23}},
		{Clock{S: 60, M: 59, H: 23}, 3, Clock{S: 63, M: 59, H: 23}},
		{Clock{S: 60, M: 59, H: 23}, 4, Clock{S: 0, M: 59, H: 23}},
		{Clock{S: 63, M: 59, H: 23}, 1, Clock{S: 0, M: 59, H: 23}},
		{Clock{S: 63, M: 59, H: 23}, 60, Clock{S: 59, M: 59, H: 23}},
		{Clock{S: 63, M: 59, H: 23}, 61, Clock{Day: 1}},
		{Clock{S: 59, M: 60, H: 23}, 1, Clock{M: 61, H: 23}},
		{Clock{S: 59, M: 62, H: 23}, 1, Clock{M: 63, H: 23}},
		{Clock{S: 59, M: 63, H: 23}, 1, Clock{M: 0, H: 23}},
		{Clock{S: 58, M: 63, H: 23}, 1, Clock{S: 59, M: 63, H: 23}},
		{Clock{S: 59, M: 59, H: 24, Day: 7}, 1, Clock{H: 25, Day: 7}},
		{Clock{S: 59, M: 59, H: 30, Day: 511}, 1, Clock{H: 31, Day: 511}},
		{Clock{S: 59, M: 59, H: 31, Day: 511}, 1, Clock{H: 0, Day: 511}},
		{Clock{S: 63, M: 63, H: 31, Day: 511}, 61, Clock{H: 31, Day: 511}},
	} {
		ticked(t, x.c, x.seconds*Second, x.want)
	}
}

// TestCarryStays: only Write clears Carry.
func TestCarryStays(t *testing.T) {
	ticked(t, Clock{Carry: true}, 1, Clock{Sub: 1, Carry: true})
	ticked(t, Clock{S: 59, M: 59, H: 23, Day: 5, Carry: true}, Second, Clock{Day: 6, Carry: true})
	ticked(t, Clock{S: 59, M: 59, H: 23, Day: 511, Carry: true}, Second, Clock{Carry: true})
	written(t, Clock{Carry: true}, partBits, 0, Clock{})
}

// TestNoTime: a clock with Halt set, and a number of cycles below 1.
func TestNoTime(t *testing.T) {
	c := Clock{S: 59, M: 59, H: 23, Day: 511, Sub: Second - 1, Held: held}
	for _, cycles := range []int{0, -1, -Second, -maxCycles, math.MinInt} {
		ticked(t, c, cycles, c)
	}
	odd := Clock{S: 200, M: 201, H: 202, Day: 600, Sub: 3 * Second}
	ticked(t, odd, 0, odd)
	c.Halt, odd.Halt = true, true
	for _, cycles := range []int{math.MinInt, -1, 0, 1, Second, maxCycles, math.MaxInt} {
		ticked(t, c, cycles, c)
		ticked(t, odd, cycles, odd)
	}
}

// TestLimit: at most 2^30 cycles are added at once.
func TestLimit(t *testing.T) {
	ticked(t, Clock{}, 1<<30-1, Clock{S: 3, M: 17, Sub: Second - 1})
	for _, cycles := range []int{1 << 30, 1<<30 + 1, 1<<30 + Second, 1<<31 - 1, math.MaxInt - 1, math.MaxInt} {
		ticked(t, Clock{}, cycles, Clock{S: 4, M: 17})
		ticked(t, Clock{Sub: Second - 1}, cycles, Clock{S: 4, M: 17, Sub: Second - 1})
	}
}

// TestFieldsThatNoCallSets: P7.1 holds for all fields that a caller may set,
// and Tick soon ends.
func TestFieldsThatNoCallSets(t *testing.T) {
	second := func(c Clock) Clock { c.S, c.M, c.H = 59, 59, 23; return c }
	for _, x := range []struct {
		c      Clock
		cycles int
		want   Clock
	}{
		{Clock{Sub: Second}, 1, Clock{S: 1, Sub: 1}},
		{Clock{Sub: 61*Second + 5}, 1, Clock{S: 1, M: 1, Sub: 6}},
		{Clock{Sub: 61*Second - 1}, 1, Clock{S: 1, M: 1}},
		{Clock{Sub: -1}, 1, Clock{}},
		{Clock{Sub: -1}, Second, Clock{Sub: Second - 1}},
		{Clock{Sub: -1}, Second + 1, Clock{S: 1}},
		{Clock{Sub: -3 * Second}, 2*Second + 5, Clock{Sub: 5 - Second}},
		{Clock{Sub: -3 * Second}, 4*Second + 5, Clock{S: 1, Sub: 5}},
		{Clock{Sub: math.MinInt}, maxCycles, Clock{Sub: math.MinInt + maxCycles}},
		{Clock{S: 64}, Second, Clock{S: 1}},
		{Clock{S: 64}, Second - 1, Clock{S: 64, Sub: Second - 1}},
		{Clock{S: 123}, Second, Clock{M: 1}},
		{Clock{S: 255}, Second, Clock{}},
		{Clock{S: 252}, 3 * Second, Clock{S: 63}},
		{Clock{S: 59, M: 251}, Second, Clock{H: 1}},
		{Clock{S: 59, M: 59, H: 247}, Second, Clock{Day: 1}},
		{Clock{S: 59, M: 59, H: 255}, Second, Clock{}},
		{second(Clock{Day: 512}), Second, Clock{Day: 513}},
		{second(Clock{Day: 1023}), Second, Clock{Day: 1024}},
		{second(Clock{Day: -1}), Second, Clock{}},
		{second(Clock{Day: -513}), Second, Clock{Day: -512}},
		{second(Clock{Day: math.MinInt}), Second, Clock{Day: math.MinInt + 1}},
		{second(Clock{Day: math.MaxInt - 1}), Second, Clock{Day: math.MaxInt}},
	} {
		ticked(t, x.c, x.cycles, x.want)
	}
}

// TestLongSub: a Sub at the end of int is counted in full, though the sum is
// no int any more.
func TestLongSub(t *testing.T) {
	const cycles = math.MaxInt
	total := cycles / Second
	rest := cycles%Second + 1 // what Tick(1) makes of it
	if rest == Second {
		total, rest = total+1, 0
	}
	want := Clock{
		S: byte(total % 60), M: byte(total / 60 % 60), H: byte(total / 3600 % 24),
		Day: total / 86400 % 512, Sub: rest, Carry: total/86400 >= 512,
	}
	ticked(t, Clock{Sub: cycles}, 1, want)
	ticked(t, want, maxCycles, want.Tick(512*Second).Tick(512*Second))
	ticked(t, Clock{Sub: cycles}, maxCycles, want.Tick(maxCycles-1))
}

func TestHold(t *testing.T) {
	for _, x := range []struct {
		c    Clock
		want [5]byte
	}{
		{Clock{}, [5]byte{}},
		{Clock{S: 1}, [5]byte{1}},
		{Clock{M: 2}, [5]byte{0, 2}},
		{Clock{H: 3}, [5]byte{0, 0, 3}},
		{Clock{Day: 4}, [5]byte{0, 0, 0, 4}},
		{Clock{Day: 255}, [5]byte{0, 0, 0, 255, 0}},
		{Clock{Day: 256}, [5]byte{0, 0, 0, 0, 1}},
		{Clock{Day: 511}, [5]byte{0, 0, 0, 255, 1}},
		{Clock{Halt: true}, [5]byte{4: 0x40}},
		{Clock{Carry: true}, [5]byte{4: 0x80}},
		{Clock{Halt: true, Carry: true, Day: 0x123}, [5]byte{3: 0x23, 4: 0xc1}},
		{Clock{Sub: Second - 1}, [5]byte{}},
		{Clock{S: 63, M: 62, H: 31, Day: 0x1fe, Sub: 77, Carry: true}, [5]byte{63, 62, 31, 0xfe, 0x81}},
		{Clock{S: 0xff, M: 0xfe, H: 0xfd, Day: 0x212}, [5]byte{0xff, 0xfe, 0xfd, 0x12, 0}},
		{Clock{Day: -1}, [5]byte{3: 0xff, 4: 1}},
	} {
		latched(t, x.c, x.want)
		x.c.Held = held
		latched(t, x.c, x.want)
	}
}

// TestRead: a register is read as it was latched, not as it is.
func TestRead(t *testing.T) {
	c := Clock{S: 59, M: 58, H: 23, Day: 511, Halt: true, Carry: true}
	for part := range 5 {
		if x := c.Read(part); x != 0 {
			t.Errorf("Read(%d) of a clock that was never latched = %02x", part, x)
		}
	}
	c.Held = held
	for part, want := range held {
		if x := c.Read(part); x != want {
			t.Errorf("Read(%d) = %02x, want %02x", part, x, want)
		}
	}
}

// TestNoSuchRegister: reading and writing registers that there are not.
func TestNoSuchRegister(t *testing.T) {
	c := Clock{S: 59, M: 58, H: 23, Day: 511, Sub: 9, Halt: true, Carry: true, Held: held}
	for _, part := range []int{math.MinInt, -256, -5, -1, 5, 6, 8, 256, 260, 1 << 30, math.MaxInt} {
		if x := c.Read(part); x != 0 {
			t.Errorf("Read(%d) = %02x, want 0", part, x)
		}
		for _, x := range []byte{0, 1, 0x40, 0x80, 0xff} {
			written(t, c, part, x, c)
		}
	}
}

// TestWrite: every byte to every register.
func TestWrite(t *testing.T) {
	for _, c := range []Clock{
		{},
		{S: 63, M: 63, H: 31, Day: 511, Sub: Second - 1, Halt: true, Carry: true, Held: held},
		{S: 12, M: 34, H: 5, Day: 0x167, Sub: 99, Carry: true, Held: held},
		{S: 12, M: 34, H: 5, Day: 0x098, Sub: 99, Halt: true},
	} {
		for x := range 0x100 {
			s, m, h, day, bits := c, c, c, c, c
			s.S, s.Sub = byte(x%64), 0
			m.M = byte(x % 64)
			h.H = byte(x % 32)
			day.Day = c.Day/256*256 + x
			bits.Day = c.Day%256 + x%2*256
			bits.Halt = x/64%2 == 1
			bits.Carry = x >= 128
			for part, want := range []Clock{s, m, h, day, bits} {
				written(t, c, part, byte(x), want)
			}
		}
	}
}

// TestWriteIsReadAfterHold: P7.3's first sentence; the bits that a register
// does not have are 0.
func TestWriteIsReadAfterHold(t *testing.T) {
	has := []byte{0x3f, 0x3f, 0x1f, 0xff, 0xc1}
	for part, mask := range has {
		for x := range 0x100 {
			c := Clock{S: 21, M: 22, H: 13, Day: 0x155, Carry: true}.Hold()
			before := c.Held
			c = c.Write(part, byte(x))
			if c.Held != before {
				t.Errorf("Write(%d, %02x) changed what is latched to %x", part, x, c.Held)
			}
			want := before
			want[part] = byte(x) & mask
			latched(t, c, want)
		}
	}
}

// TestWriteOfSecondsStartsThemAnew: Sub is 0 then, and stays what it is when
// another register is written.
func TestWriteOfSecondsStartsThemAnew(t *testing.T) {
	c := Clock{Sub: Second - 1}
	ticked(t, c.Write(partSeconds, 5), Second-1, Clock{S: 5, Sub: Second - 1})
	ticked(t, c.Write(partMinutes, 5), 1, Clock{S: 1, M: 5})
	ticked(t, c.Write(partHours, 5), 1, Clock{S: 1, H: 5})
	ticked(t, c.Write(partDays, 5), 1, Clock{S: 1, Day: 5})
	ticked(t, c.Write(partBits, 1), 1, Clock{S: 1, Day: 256})
}

// TestHaltIsLifted: a clock that stood goes on where it was.
func TestHaltIsLifted(t *testing.T) {
	c := Clock{S: 7, Sub: 100}.Write(partBits, 0x40).Tick(5 * Second)
	ticked(t, c.Write(partBits, 0), Second, Clock{S: 8, Sub: 100})
}

// TestWriteOfDaysThatNoCallSets: the other bits of the days stay.
func TestWriteOfDaysThatNoCallSets(t *testing.T) {
	written(t, Clock{Day: 0x7654}, partDays, 0x32, Clock{Day: 0x7632})
	written(t, Clock{Day: 0x7754}, partBits, 0xfe, Clock{Day: 0x7654, Halt: true, Carry: true})
	written(t, Clock{Day: 0x7654}, partBits, 0x01, Clock{Day: 0x7754})
	written(t, Clock{Day: -1}, partDays, 0, Clock{Day: -256})
	written(t, Clock{Day: -1}, partBits, 0, Clock{Day: -257})
}
