package clock

import "testing"

// The tests of this file hold the functions against a second reading of the
// document, second by second, and against plain numbers of seconds.

// wantSecond returns the clock after a second, as P7.1 says it.
func wantSecond(c Clock) Clock {
	c.S = (c.S + 1) % 64
	if c.S != 60 {
		return c
	}
	c.S = 0
	c.M = (c.M + 1) % 64
	if c.M != 60 {
		return c
	}
	c.M = 0
	c.H = (c.H + 1) % 32
	if c.H != 24 {
		return c
	}
	c.H = 0
	c.Day++
	if c.Day == 512 {
		c.Day = 0
		c.Carry = true
	}
	return c
}

// wantTick returns what Tick should return.
func wantTick(c Clock, cycles int) Clock {
	if c.Halt || cycles < 1 {
		return c
	}
	if cycles > 1073741824 {
		cycles = 1073741824
	}
	for c.Sub += cycles; c.Sub >= 1048576; c.Sub -= 1048576 {
		c = wantSecond(c)
	}
	return c
}

// registers returns what the registers of c are.
func registers(c Clock) [5]byte {
	b := [5]byte{c.S, c.M, c.H, byte(c.Day % 256), byte(c.Day / 256)}
	if c.Halt {
		b[4] += 64
	}
	if c.Carry {
		b[4] += 128
	}
	return b
}

// wantWrite returns what Write should return for a register that there is.
func wantWrite(c Clock, part int, x byte) Clock {
	b := registers(c)
	b[part] = x
	if part == 0 {
		c.Sub = 0
	}
	c.S, c.M, c.H = b[0]%64, b[1]%64, b[2]%32
	c.Day = int(b[3]) + 256*int(b[4]%2)
	c.Halt, c.Carry = b[4]/64%2 == 1, b[4]/128 == 1
	return c
}

// numbers returns a function that returns other numbers in each call, the same
// in each run.
func numbers() func(below int) int {
	x := uint64(1)
	return func(below int) int {
		x = x*6364136223846793005 + 1442695040888963407
		return int(x>>33) % below
	}
}

// near returns most often a number close below an end, or from there to a limit.
func near(number func(int) int, end, limit int) int {
	switch number(4) {
	case 0:
		return number(limit)
	case 1:
		return end + number(limit-end+1) - 1
	}
	return end - 1
}

// varied returns a clock that writes and ticks can lead to.
func varied(number func(int) int) Clock {
	return Clock{
		S:     byte(near(number, 60, 64)),
		M:     byte(near(number, 60, 64)),
		H:     byte(near(number, 24, 32)),
		Day:   near(number, 512, 512),
		Sub:   near(number, Second, Second),
		Halt:  number(16) == 0,
		Carry: number(4) == 0,
	}
}

// someCycles returns a number of cycles, of any size up to 2^30.
func someCycles(number func(int) int) int {
	switch number(6) {
	case 0:
		return 1
	case 1:
		return number(Second)
	case 2:
		return Second*number(8) + number(3)
	case 3:
		return number(100 * Second)
	case 4:
		return number(1<<30 + 1)
	}
	return Second
}

func TestManyTicks(t *testing.T) {
	number := numbers()
	overflows := 0
	for range 100000 {
		c, cycles := varied(number), someCycles(number)
		c.Held = [5]byte{byte(number(256)), byte(number(256)), byte(number(256)), byte(number(256)), byte(number(256))}
		want := wantTick(c, cycles)
		ticked(t, c, cycles, want)
		if want.Carry && !c.Carry {
			overflows++
		}
		if t.Failed() {
			return
		}
	}
	if overflows < 1000 {
		t.Errorf("the days overflowed only %d times", overflows)
	}
}

// TestEverySecondOfADay: all times of a day and some days, one second each.
func TestEverySecondOfADay(t *testing.T) {
	for h := range 256 {
		for m := range 256 {
			// A minute more or less in the middle goes as any other.
			if m%64 > 4 && m%64 < 55 && h > 1 {
				continue
			}
			for s := range 256 {
				for _, day := range []int{7, 511} {
					c := Clock{S: byte(s), M: byte(m), H: byte(h), Day: day}
					if got, want := c.Tick(Second), wantSecond(c); got != want {
						t.Fatalf("Tick(Second) of %+v = %+v, want %+v", c, got, want)
					}
				}
			}
		}
	}
}

// TestLongTimes: with a Sub that holds many seconds, they go by as one by one.
func TestLongTimes(t *testing.T) {
	number := numbers()
	for range 300 {
		c := varied(number)
		c.S, c.M, c.H, c.Halt = byte(number(256)), byte(number(256)), byte(number(256)), false
		c.Day = 508 + number(8)
		c.Sub = number(1<<30)*300 + number(Second)
		cycles := someCycles(number)
		ticked(t, c, cycles, wantTick(c, cycles))
	}
}

// total returns the seconds since day 0, with the day taken modulo 512.
func total(c Clock) int {
	return ((c.Day*24+int(c.H))*60+int(c.M))*60 + int(c.S)
}

// TestTimeIsANumberOfSeconds: the time of an ordinary clock advances as a
// number does.
func TestTimeIsANumberOfSeconds(t *testing.T) {
	const all = 512 * 24 * 60 * 60
	number := numbers()
	c, cycles := Clock{Day: 500, H: 3}, 0
	start := total(c)
	carry := false
	for range 100000 {
		step := 1<<29 + number(1<<29)
		c = c.Tick(step)
		cycles += step
		at := start + cycles/Second
		carry = carry || at >= all
		if total(c) != at%all || c.Sub != cycles%Second || c.Carry != carry || c.S > 59 || c.M > 59 || c.H > 23 {
			t.Fatalf("after %d cycles: %+v", cycles, c)
		}
	}
	if !carry {
		t.Error("the days did not overflow")
	}
}

// TestParts: ticking in several parts has the same effect as ticking once.
func TestParts(t *testing.T) {
	number := numbers()
	for range 20000 {
		c := varied(number)
		once, left := c, someCycles(number)
		once = once.Tick(left)
		for left > 0 {
			part := min(1+someCycles(number), left)
			c = c.Tick(part)
			left -= part
		}
		if c != once {
			t.Fatalf("in parts: %+v, at once: %+v", c, once)
		}
	}
}

// TestCycleByCycle: a cycle at a time, as the machine does it.
func TestCycleByCycle(t *testing.T) {
	c := Clock{S: 58, M: 59, H: 23, Day: 511, Sub: 17}
	want := c.Tick(2*Second + 5)
	for range 2*Second + 5 {
		c = c.Tick(1)
	}
	if c != want {
		t.Errorf("cycle by cycle: %+v, at once: %+v", c, want)
	}
}

// TestRuns: what many calls lead to, from the zero value on.
func TestRuns(t *testing.T) {
	number := numbers()
	for range 2000 {
		var c Clock
		for range 100 {
			want := c
			switch number(4) {
			case 0:
				part, x := number(5), byte(number(256))
				want = wantWrite(c, part, x)
				written(t, c, part, x, want)
			case 1:
				want.Held = registers(c)
				latched(t, c, want.Held)
			default:
				cycles := someCycles(number) - number(2)
				want = wantTick(c, cycles)
				ticked(t, c, cycles, want)
			}
			for part, x := range want.Held {
				if got := want.Read(part); got != x {
					t.Errorf("Read(%d) of %+v = %02x, want %02x", part, want, got, x)
				}
			}
			if t.Failed() {
				return
			}
			c = want
		}
	}
}
