package sound

import (
	"math"
	"strconv"
	"strings"
	"testing"
)

// The tests of this file hold the functions against a second reading of the
// document, sentence by sentence, in texts of bits.

// text returns the bits of a byte, bit 7 first.
func text(x byte) string {
	s := strconv.FormatInt(int64(x), 2)
	return strings.Repeat("0", 8-len(s)) + s
}

// number returns the number with these bits.
func number(bits string) int {
	x, err := strconv.ParseInt(bits, 2, 64)
	if err != nil {
		panic(err)
	}
	return int(x)
}

// bits returns the number in the bits from low to high of a byte.
func bits(x byte, low, high int) int {
	return number(text(x)[7-high : 8-low])
}

// set reports whether a bit of a byte is set.
func set(x byte, bit int) bool {
	return text(x)[7-bit] == '1'
}

// isReady reports whether a channel is ready.
func isReady(b Board, v int) bool {
	if v == 2 {
		return set(b.Regs[0xa], 7)
	}
	return strings.Contains(text(b.Regs[5*v+2])[:5], "1")
}

// longest returns the maximum length of a channel.
func longest(v int) int {
	return []int{64, 64, 256, 64}[v]
}

// nextFrequency returns the next frequency.
func nextFrequency(b Board) int {
	shifted := b.Pitch
	for range bits(b.Regs[0], 0, 2) {
		if shifted < 0 {
			shifted--
		}
		shifted /= 2
	}
	if set(b.Regs[0], 3) {
		return b.Pitch - shifted
	}
	return b.Pitch + shifted
}

// orEight returns bits 4 to 6 of register 0, or 8 if these are 0.
func orEight(b Board) int {
	if x := bits(b.Regs[0], 4, 6); x > 0 {
		return x
	}
	return 8
}

// wantTick returns the board that Tick should return.
func wantTick(b Board) Board {
	if !b.On {
		return b
	}
	b.Div++
	if b.Div != 2048 {
		return b
	}
	b.Div = 0
	if b.Step >= 0 && b.Step <= 6 && b.Step%2 == 0 {
		b = wantLengths(b)
	}
	if (b.Step == 2 || b.Step == 6) && b.Slides {
		b = wantSlide(b)
	}
	if b.Step == 7 {
		b = wantLevels(b)
	}
	b.Step = (b.Step%8 + 9) % 8
	return b
}

func wantLengths(b Board) Board {
	for v := 0; v < 4; v++ {
		if set(b.Regs[5*v+4], 6) && b.Voices[v].Length > 0 {
			b.Voices[v].Length--
			if b.Voices[v].Length == 0 {
				b.Voices[v].On = false
			}
		}
	}
	return b
}

func wantSlide(b Board) Board {
	b.Slide--
	if b.Slide > 0 {
		return b
	}
	b.Slide = orEight(b)
	if bits(b.Regs[0], 4, 6) == 0 {
		return b
	}
	next := nextFrequency(b)
	if next > 2047 {
		b.Voices[0].On = false
		return b
	}
	if bits(b.Regs[0], 0, 2) != 0 {
		b.Pitch = next
		lower := text(byte(next))
		higher := text(byte((next - int(byte(next))) / 256))
		b.Regs[3] = byte(number(lower))
		b.Regs[4] = byte(number(text(b.Regs[4])[:5] + higher[5:]))
		if nextFrequency(b) > 2047 {
			b.Voices[0].On = false
		}
	}
	return b
}

func wantLevels(b Board) Board {
	for _, v := range []int{0, 1, 3} {
		x := b.Regs[5*v+2]
		voice := b.Voices[v]
		if bits(x, 0, 2) == 0 {
			continue
		}
		voice.Wait--
		if voice.Wait <= 0 {
			voice.Wait = bits(x, 0, 2)
			switch {
			case set(x, 3) && voice.Level < 15:
				voice.Level++
			case !set(x, 3) && voice.Level > 0:
				voice.Level--
			}
		}
		b.Voices[v] = voice
	}
	return b
}

// wantRead returns the byte that Read should return.
func wantRead(b Board, n int) byte {
	if n < 0 || n > 0x2f {
		return 0xff
	}
	if n != 0x16 {
		return b.Regs[n] | masks[n]
	}
	s := ""
	for _, on := range []bool{b.Voices[0].On, b.Voices[1].On, b.Voices[2].On, b.Voices[3].On} {
		s = digit(on) + s
	}
	return byte(number(digit(b.On) + "111" + s))
}

// digit returns 1 or 0.
func digit(set bool) string {
	if set {
		return "1"
	}
	return "0"
}

// wantWrite returns the board that Write should return.
func wantWrite(b Board, n int, x byte) Board {
	switch {
	case n < 0 || n > 0x2f:
		return b
	case n == 0x16 && set(x, 7):
		if !b.On {
			b.Div, b.Step = 0, 0
		}
		b.On = true
		return b
	case n == 0x16:
		for n := range 0x16 {
			b.Regs[n] = 0
		}
		b.Voices = [4]Voice{}
		b.Pitch, b.Slide, b.Slides, b.On = 0, 0, false, false
		return b
	case !b.On && n < 0x20:
		return b
	}
	b.Regs[n] = x
	if n > 0x13 {
		return b
	}
	v := strings.IndexByte("aaaaabbbbbcccccddddd", "aaaaabbbbbcccccddddd"[n]) / 5
	switch n {
	case 1, 6, 0x10:
		b.Voices[v].Length = 64 - bits(x, 0, 5)
	case 0xb:
		b.Voices[v].Length = 256 - int(x)
	case 2, 7, 0xa, 0xc, 0x11:
		b.Voices[v].On = b.Voices[v].On && isReady(b, v)
	case 4, 9, 0xe, 0x13:
		if set(x, 7) {
			return wantTrigger(b, v)
		}
	}
	return b
}

func wantTrigger(b Board, v int) Board {
	level := b.Regs[5*v+2]
	voice := Voice{On: isReady(b, v), Length: b.Voices[v].Length, Level: bits(level, 4, 7), Wait: bits(level, 0, 2)}
	if voice.Length == 0 {
		voice.Length = longest(v)
	}
	b.Voices[v] = voice
	if v > 0 {
		return b
	}
	b.Pitch = number(text(b.Regs[4])[5:] + text(b.Regs[3]))
	b.Slide = orEight(b)
	b.Slides = bits(b.Regs[0], 4, 6)+bits(b.Regs[0], 0, 2) > 0
	if bits(b.Regs[0], 0, 2) > 0 && nextFrequency(b) > 2047 {
		b.Voices[0].On = false
	}
	return b
}

// source is a source of varied numbers, always the same ones.
type source uint64

// below returns a number from 0 to limit-1.
func (s *source) below(limit int) int {
	*s = *s*6364136223846793005 + 1442695040888963407
	return int(uint64(*s) >> 33 % uint64(limit))
}

// of returns one of the numbers.
func (s *source) of(numbers ...int) int {
	return numbers[s.below(len(numbers))]
}

// flag returns true or false.
func (s *source) flag() bool {
	return s.below(2) == 1
}

// board returns a board of any fields, also such as no call sets.
func (s *source) board() Board {
	b := Board{On: s.below(8) > 0, Slides: s.flag()}
	b.Div = s.of(0, 1, 1000, 2046, 2047, 2047, 2047, 2047, 2048, -1, math.MinInt)
	b.Step = s.of(0, 1, 2, 2, 3, 4, 5, 6, 6, 7, 7, 7, 8, 9, 10, -1, -2, math.MinInt, math.MaxInt)
	b.Slide = s.of(0, 1, 1, 1, 2, 7, 8, 9, -1, math.MaxInt)
	b.Pitch = s.of(s.below(2048), s.below(2048), s.below(2048), s.below(0x10000), -1-s.below(0x10000), 0, 2047)
	for n := range b.Regs {
		b.Regs[n] = byte(s.below(0x100))
		if s.below(4) == 0 {
			b.Regs[n] = 0
		}
	}
	for v := range b.Voices {
		length := s.of(0, 1, 1, 2, s.below(65), s.below(257), 257, -1, math.MinInt, math.MaxInt)
		level := s.of(0, 1, 14, 15, s.below(16), 16, -1, math.MinInt, math.MaxInt)
		wait := s.of(0, 1, 1, 1, 2, s.below(8), 8, -1, math.MaxInt)
		b.Voices[v] = Voice{On: s.flag(), Length: length, Level: level, Wait: wait}
	}
	return b
}

func TestVariedTicks(t *testing.T) {
	s := source(1)
	for range 100000 {
		b := s.board()
		ticked(t, b, wantTick(b))
	}
}

func TestVariedReads(t *testing.T) {
	s := source(2)
	for range 3000 {
		b := s.board()
		for n := -50; n < 150; n++ {
			isRead(t, b, n, wantRead(b, n))
		}
	}
}

func TestVariedWrites(t *testing.T) {
	s := source(3)
	for range 10000 {
		b := s.board()
		for n := -2; n < 0x32; n++ {
			x := byte(s.below(0x100))
			written(t, b, n, x, wantWrite(b, n, x))
		}
	}
}

// TestEveryWrite: every byte to every register of some boards.
func TestEveryWrite(t *testing.T) {
	s := source(4)
	for range 30 {
		b := s.board()
		for n := -10; n < 60; n++ {
			for x := range 0x100 {
				written(t, b, n, byte(x), wantWrite(b, n, byte(x)))
			}
		}
	}
}

// TestEverySlide: every frequency and sweep, at a trigger and at a step.
func TestEverySlide(t *testing.T) {
	for sweep := range 0x100 {
		for pitch := range 2048 {
			b := with(silent(), 0, byte(sweep), 0, 0xf0, byte(pitch))
			high := byte(0x80 + pitch/256)
			want := wantWrite(b, 4, high)
			written(t, b, 4, high, want)
			b = atStep(want, 2+pitch%2*4)
			b.Slides, b.Slide = true, 1
			ticked(t, b, wantTick(b))
		}
	}
}

// TestEveryEnvelope: every envelope at every level and time.
func TestEveryEnvelope(t *testing.T) {
	for x := range 0x100 {
		for level := range 16 {
			for wait := range 9 {
				b := atStep(with(silent(), 7, byte(x)), 7)
				b.Voices[1] = Voice{On: true, Length: 5, Level: level, Wait: wait}
				ticked(t, b, wantTick(b))
			}
		}
	}
}

// holds checks P12.4.
func holds(t *testing.T, b Board) {
	t.Helper()
	for v, voice := range b.Voices {
		if voice.On && (!isReady(b, v) || !b.On) {
			t.Errorf("channel %d is on: %+v", v, b)
		}
		if voice.Level < 0 || voice.Level > 15 {
			t.Errorf("channel %d has level %d: %+v", v, voice.Level, b)
		}
		if voice.Length < 0 || voice.Length > longest(v) {
			t.Errorf("channel %d has length %d: %+v", v, voice.Length, b)
		}
	}
}

// someByte returns a byte for register n, such that channels are often on.
func (s *source) someByte(n int) byte {
	switch {
	case n == 0x16:
		return byte(s.of(0x00, 0x80, 0x80, 0x80, 0x80, 0xff, 0x7f))
	case n < 0x14 && n%5 == 4:
		return byte(s.of(0x80, 0xc0, 0xc7, 0xff, 0x40, s.below(0x100)))
	case n == 10:
		return byte(s.of(0x80, 0xff, s.below(0x100)))
	case n < 0x14 && n%5 == 2:
		return byte(s.of(0xf1, 0xf0, 0x09, 0x08, s.below(0x100), s.below(8)))
	case n < 0x14 && n%5 == 1:
		return byte(s.of(0x3f, 0xfe, s.below(0x100)))
	}
	return byte(s.below(0x100))
}

// someRegister returns the number of a register, at times one that there is
// not.
func (s *source) someRegister() int {
	return s.of(s.below(0x14), s.below(0x14), s.below(0x14), s.below(0x14), 0x16, s.below(0x30), s.below(0x40)-8)
}

// TestVariedRuns: runs from the zero value, in which many cycles that only
// count are left out, as TestEveryCycle has them.
func TestVariedRuns(t *testing.T) {
	s := source(5)
	for range 200 {
		b := Board{}
		for range 300 {
			n := s.someRegister()
			x := s.someByte(n)
			want := wantWrite(b, n, x)
			written(t, b, n, x, want)
			b = want
			holds(t, b)
			for range s.below(6) {
				if b.On {
					b.Div = 2047
				}
				want := wantTick(b)
				ticked(t, b, want)
				b = want
				holds(t, b)
			}
			n = s.someRegister()
			isRead(t, b, n, wantRead(b, n))
			isRead(t, b, 0x16, wantRead(b, 0x16))
		}
	}
}

// TestEveryCycle: runs from the zero value, cycle by cycle.
func TestEveryCycle(t *testing.T) {
	s := source(6)
	b := Board{}
	for range 500 {
		n := s.someRegister()
		x := s.someByte(n)
		want := wantWrite(b, n, x)
		written(t, b, n, x, want)
		b = want
		for range s.of(0, 1, 2047, 2048, 2049, s.below(6000)) {
			want := wantTick(b)
			if got := b.Tick(); got != want {
				t.Fatalf("Tick of %+v\n = %+v,\nwant %+v", b, got, want)
			}
			b = want
		}
		holds(t, b)
	}
}

// TestSteps: when the steps are, from switching on, and from switching on
// again after an odd time.
func TestSteps(t *testing.T) {
	b := silent()
	for range 3 {
		for cycle := 1; cycle <= 2048*8*2; cycle++ {
			b = b.Tick()
			if want := (Board{On: true, Div: cycle % 2048, Step: cycle / 2048 % 8}); b != want {
				t.Fatalf("cycle %d: %+v", cycle, b)
			}
		}
		for range 5000 {
			b = b.Tick()
		}
		b = b.Write(0x16, 0)
		for range 100 {
			ticked(t, b, Board{Div: 5000 - 2*2048, Step: 2})
		}
		b = b.Write(0x16, 0x80)
	}
}

// TestWholeLength: after how many steps a channel is off, for every length.
func TestWholeLength(t *testing.T) {
	for v := range 4 {
		for x := range longest(v) {
			b := silent().Write(5*v, 0x80).Write(5*v+2, 0xf0).Write(5*v+1, byte(x)).Write(5*v+4, 0xc0)
			steps := 0
			for ; b.Voices[v].On && steps < 1000; steps++ {
				b.Div = 2047
				b = b.Tick()
			}
			// The first of the steps counts, and then every second one.
			if want := 2*(longest(v)-x) - 1; steps != want {
				t.Errorf("channel %d, %02x: %d steps, want %d", v, x, steps, want)
			}
		}
	}
}
