package sound

import (
	"math"
	"testing"
)

// ticked checks the result of Tick.
func ticked(t *testing.T, b, want Board) {
	t.Helper()
	before := b
	if got := b.Tick(); got != want {
		t.Errorf("Tick of %+v\n = %+v,\nwant %+v", b, got, want)
	}
	if b != before {
		t.Errorf("Tick changed %+v to %+v", before, b)
	}
}

// written checks the result of Write.
func written(t *testing.T, b Board, n int, x byte, want Board) {
	t.Helper()
	before := b
	if got := b.Write(n, x); got != want {
		t.Errorf("Write(%x, %02x) of %+v\n = %+v,\nwant %+v", n, x, b, got, want)
	}
	if b != before {
		t.Errorf("Write(%x, %02x) changed %+v to %+v", n, x, before, b)
	}
}

// isRead checks the result of Read.
func isRead(t *testing.T, b Board, n int, want byte) {
	t.Helper()
	before := b
	if got := b.Read(n); got != want {
		t.Errorf("Read(%x) of %+v = %02x, want %02x", n, b, got, want)
	}
	if b != before {
		t.Errorf("Read(%x) changed %+v to %+v", n, before, b)
	}
}

// noSuch are numbers that no register has.
var noSuch = []int{-1, -2, -5, -16, -48, -0x100, math.MinInt, 0x30, 0x31, 0x100, 0x116, math.MaxInt}

// silent returns a board that has just been switched on.
func silent() Board {
	return Board{}.Write(0x16, 0x80)
}

// with returns a board with registers set from number n on, and nothing else.
func with(b Board, n int, bytes ...byte) Board {
	copy(b.Regs[n:], bytes)
	return b
}

// atStep returns a board in the last cycle before a step of the sequencer.
func atStep(b Board, step int) Board {
	b.Div = 2047
	b.Step = step
	return b
}

// stepped returns a board after the step that atStep prepared.
func stepped(b Board, step int) Board {
	b.Div = 0
	b.Step = (step + 1) % 8
	return b
}

// busy returns a board whose every field is set.
func busy() Board {
	b := Board{On: true, Div: 1000, Step: 5, Pitch: 1234, Slide: 3, Slides: true}
	for n := range b.Regs {
		b.Regs[n] = byte(0x90 + n)
	}
	b.Regs[0x16] = 0
	for v := range b.Voices {
		b.Voices[v] = Voice{On: true, Length: 10 + v, Level: 5 + v, Wait: 2 + v}
	}
	return b
}

// TestExample: the example of the chapter.
func TestExample(t *testing.T) {
	b := Board{}.Write(0x16, 0x80).Write(2, 0xf0).Write(4, 0x80)
	isRead(t, b, 0x16, 0xf1)
}

func TestZero(t *testing.T) {
	ticked(t, Board{}, Board{})
	isRead(t, Board{}, 0x16, 0x70)
	isRead(t, Board{}, 0, 0x80)
	written(t, Board{}, 0x16, 0x00, Board{})
	written(t, Board{}, 0x16, 0x80, Board{On: true})
}

func TestTickWhenOff(t *testing.T) {
	for step := range 8 {
		for _, div := range []int{0, 1, 2046, 2047, 2048, -1} {
			b := busy()
			b.On, b.Div, b.Step = false, div, step
			ticked(t, b, b)
		}
	}
}

func TestTickCounts(t *testing.T) {
	for div := range 2047 {
		for step := range 8 {
			b := busy()
			b.Div, b.Step = div, step
			want := b
			want.Div++
			ticked(t, b, want)
		}
	}
	for step := range 8 {
		ticked(t, atStep(silent(), step), stepped(silent(), step))
	}
}

// TestTickOfOtherNumbers: numbers that no call sets.
func TestTickOfOtherNumbers(t *testing.T) {
	for _, div := range []int{-2, -1, -2048, math.MinInt, 2048, 2049, 4095, 4096} {
		for _, step := range []int{0, 2, 7} {
			b := busy()
			b.Div, b.Step = div, step
			want := b
			want.Div++
			ticked(t, b, want)
		}
	}
	// There is no step with such a number, so nothing is performed.
	for _, x := range []struct{ step, next int }{
		{8, 1}, {9, 2}, {10, 3}, {15, 0}, {16, 1}, {-1, 0}, {-2, 7}, {-8, 1}, {-9, 0},
		{math.MaxInt, 0}, {math.MinInt, 1},
	} {
		b := busy()
		b.Div, b.Step = 2047, x.step
		want := busy()
		want.Div, want.Step = 0, x.next
		ticked(t, b, want)
	}
}

// TestLengths: P12.1, of every channel at every step.
func TestLengths(t *testing.T) {
	for step := range 8 {
		for v := range 4 {
			for _, high := range []byte{0x00, 0x40, 0x80, 0xbf, 0xc0, 0xff} {
				for _, length := range []int{-1, 0, 1, 2, 63, 64, 256} {
					for _, on := range []bool{false, true} {
						b := with(silent(), 5*v+4, high)
						b.Voices[v] = Voice{On: on, Length: length, Level: 3, Wait: 4}
						want := b
						if step%2 == 0 && high&0x40 != 0 && length > 0 {
							want.Voices[v].Length--
							want.Voices[v].On = on && length > 1
						}
						ticked(t, atStep(b, step), stepped(want, step))
					}
				}
			}
		}
	}
}

// TestLengthsTogether: several channels in one step.
func TestLengthsTogether(t *testing.T) {
	b := with(with(with(with(silent(), 4, 0x40), 9, 0x40), 14, 0x00), 19, 0x40)
	b.Voices = [4]Voice{{On: true, Length: 1}, {On: true, Length: 2}, {On: true, Length: 1}, {On: true, Length: 1}}
	want := b
	want.Voices = [4]Voice{{}, {On: true, Length: 1}, {On: true, Length: 1}, {}}
	ticked(t, atStep(b, 0), stepped(want, 0))
	ticked(t, atStep(b, 4), stepped(want, 4))
	ticked(t, atStep(b, 3), stepped(b, 3))
}

// TestSlide: P12.1, steps 2 and 6.
func TestSlide(t *testing.T) {
	for _, x := range []struct {
		name            string
		sweep           byte
		low, high       byte
		pitch, slide    int
		newLow, newHigh byte
		newPitch        int
		newSlide        int
		on              bool
	}{
		{"upward", 0x11, 0x00, 0xc4, 1024, 1, 0x00, 0xc6, 1536, 1, false},
		{"upward, and on", 0x11, 0xaa, 0xff, 512, 1, 0x00, 0xfb, 768, 1, true},
		{"low and high bits", 0x21, 0x00, 0x38, 0x123, 1, 0xb4, 0x39, 0x1b4, 2, true},
		{"downward", 0x19, 0x00, 0x80, 1024, 1, 0x00, 0x82, 512, 1, true},
		{"downward at the highest", 0x1f, 0xff, 0x07, 2047, 1, 0xf0, 0x07, 2032, 1, true},
		{"downward to 0", 0x79, 0xff, 0x07, 1, 1, 0x01, 0x00, 1, 7, true},
		{"the greatest shift", 0x37, 0x00, 0x00, 128, 1, 129, 0x00, 129, 3, true},
		{"to 2047", 0x11, 0x00, 0x00, 1365, 1, 0xff, 0x07, 2047, 1, false},
		{"to 2048", 0x12, 0x12, 0x34, 1639, 1, 0x12, 0x34, 1639, 1, false},
		{"too high after that", 0x17, 0x12, 0x30, 2031, 1, 0xfe, 0x37, 2046, 1, false},
		{"again not too high", 0x12, 0x00, 0x00, 1310, 1, 0x65, 0x06, 1637, 1, true},
		{"again too high", 0x12, 0x00, 0x00, 1311, 1, 0x66, 0x06, 1638, 1, true},
		{"again just too high", 0x12, 0x00, 0x00, 1312, 1, 0x68, 0x06, 1640, 1, false},
		{"shift 0, low", 0x10, 0x12, 0x34, 1023, 1, 0x12, 0x34, 1023, 1, true},
		{"shift 0, high", 0x10, 0x12, 0x34, 1024, 1, 0x12, 0x34, 1024, 1, false},
		{"shift 0, downward", 0x18, 0x12, 0x34, 2047, 1, 0x12, 0x34, 2047, 1, true},
		{"not yet", 0x11, 0x12, 0x34, 1024, 2, 0x12, 0x34, 1024, 1, true},
		{"not yet, long", 0x11, 0x12, 0x34, 2047, 8, 0x12, 0x34, 2047, 7, true},
		{"period 0", 0x01, 0x12, 0x34, 2047, 1, 0x12, 0x34, 2047, 8, true},
		{"period 0, not yet", 0x01, 0x12, 0x34, 2047, 3, 0x12, 0x34, 2047, 2, true},
		{"all 0", 0x00, 0x12, 0x34, 2047, 1, 0x12, 0x34, 2047, 8, true},
		{"bit 7 of the sweep", 0x81, 0x12, 0x34, 2047, 1, 0x12, 0x34, 2047, 8, true},
		{"period 7", 0x7f, 0x00, 0x00, 1000, 1, 0xe1, 0x03, 993, 7, true},
		{"slide 0", 0x51, 0x00, 0x00, 512, 0, 0x00, 0x03, 768, 5, true},
		{"slide below 0", 0x51, 0x00, 0x00, 512, -3, 0x00, 0x03, 768, 5, true},
		{"the least slide", 0x51, 0x00, 0x00, 512, math.MinInt, 0x00, 0x03, 768, 5, true},
		{"a negative frequency", 0x11, 0x00, 0x00, -2, 1, 0xfd, 0x07, -3, 1, true},
	} {
		b := with(silent(), 0, x.sweep, 0, 0xf0, x.low, x.high&^0x40)
		b.Voices[0] = Voice{On: true, Length: 9}
		b.Voices[1] = Voice{On: true}
		b.Slides, b.Pitch, b.Slide = true, x.pitch, x.slide
		want := with(b, 3, x.newLow, x.newHigh&^0x40)
		want.Pitch, want.Slide = x.newPitch, x.newSlide
		want.Voices[0].On = x.on
		t.Run(x.name, func(t *testing.T) {
			for step := range 8 {
				if step == 2 || step == 6 {
					ticked(t, atStep(b, step), stepped(want, step))
				} else {
					ticked(t, atStep(b, step), stepped(b, step))
				}
			}
			b.Slides = false
			ticked(t, atStep(b, 2), stepped(b, 2))
			ticked(t, atStep(b, 6), stepped(b, 6))
		})
	}
}

// TestSlideAfterLengths: a channel that its length has switched off still
// slides in that step, and one that is off slides, too.
func TestSlideAfterLengths(t *testing.T) {
	b := with(silent(), 0, 0x11, 0, 0xf0, 0x00, 0x42)
	b.Voices[0] = Voice{On: true, Length: 1}
	b.Slides, b.Pitch, b.Slide = true, 512, 1
	want := with(b, 3, 0x00, 0x43)
	want.Voices[0] = Voice{}
	want.Pitch = 768
	ticked(t, atStep(b, 2), stepped(want, 2))
	ticked(t, atStep(b, 6), stepped(want, 6))
	b.Voices[0] = Voice{}
	ticked(t, atStep(b, 2), stepped(want, 2))
}

// TestEnvelope: P12.1, step 7.
func TestEnvelope(t *testing.T) {
	for _, x := range []struct {
		envelope          byte
		level, wait       int
		newLevel, newWait int
	}{
		{0xf1, 15, 1, 14, 1},
		{0xf3, 15, 1, 14, 3},
		{0xf7, 15, 0, 14, 7},
		{0xf7, 15, -5, 14, 7},
		{0xf7, 15, math.MinInt, 14, 7},
		{0xf2, 15, 2, 15, 1},
		{0xf7, 15, 7, 15, 6},
		{0x07, 1, 1, 0, 7},
		{0x07, 0, 1, 0, 7},
		{0x09, 0, 1, 1, 1},
		{0x0a, 14, 1, 15, 2},
		{0x0a, 15, 1, 15, 2},
		{0xfa, 3, 5, 3, 4},
		// No envelope.
		{0xf0, 15, 1, 15, 1},
		{0xf8, 3, 0, 3, 0},
		{0x08, 3, 2, 3, 2},
		// Levels that no call sets.
		{0x01, -1, 1, -1, 1},
		{0x01, 16, 1, 15, 1},
		{0x09, 16, 1, 16, 1},
		{0x09, -1, 1, 0, 1},
	} {
		for v := range 4 {
			for _, on := range []bool{false, true} {
				b := with(silent(), 5*v+2, x.envelope)
				b.Voices[v] = Voice{On: on, Length: 7, Level: x.level, Wait: x.wait}
				want := b
				if v != 2 {
					want.Voices[v].Level, want.Voices[v].Wait = x.newLevel, x.newWait
				}
				ticked(t, atStep(b, 7), stepped(want, 7))
				for step := range 7 {
					ticked(t, atStep(b, step), stepped(b, step))
				}
			}
		}
	}
}

// TestEnvelopesTogether: all channels that have one in one step.
func TestEnvelopesTogether(t *testing.T) {
	b := with(with(with(with(silent(), 2, 0xf1), 7, 0x0a), 12, 0x01), 17, 0x73)
	b.Voices = [4]Voice{{Level: 5, Wait: 1}, {Level: 6, Wait: 1}, {Level: 7, Wait: 1}, {Level: 8, Wait: 3}}
	want := b
	want.Voices = [4]Voice{{Level: 4, Wait: 1}, {Level: 7, Wait: 2}, {Level: 7, Wait: 1}, {Level: 8, Wait: 2}}
	ticked(t, atStep(b, 7), stepped(want, 7))
}

// masks are the bits that are always read as set, as the document lists them.
var masks = []byte{
	0x80, 0x3f, 0x00, 0xff, 0xbf, 0xff, 0x3f, 0x00, 0xff, 0xbf,
	0x7f, 0xff, 0x9f, 0xff, 0xbf, 0xff, 0xff, 0x00, 0x00, 0xbf,
	0x00, 0x00, 0x70,
	0xff, 0xff, 0xff, 0xff, 0xff, 0xff, 0xff, 0xff, 0xff,
	0, 0, 0, 0, 0, 0, 0, 0, 0, 0, 0, 0, 0, 0, 0, 0,
}

func TestRead(t *testing.T) {
	for n, mask := range masks {
		if n == 0x16 {
			continue
		}
		for x := range 0x100 {
			for _, on := range []bool{false, true} {
				isRead(t, with(Board{On: on}, n, byte(x)), n, byte(x)|mask)
			}
		}
	}
	for _, n := range noSuch {
		isRead(t, Board{}, n, 0xff)
		isRead(t, busy(), n, 0xff)
	}
}

// TestReadPower: register 16, also if a caller set its byte in Regs to 0f.
func TestReadPower(t *testing.T) {
	for set := range 16 {
		b := Board{}
		for v := range 4 {
			b.Voices[v].On = set>>v&1 != 0
		}
		isRead(t, b, 0x16, byte(0x70+set))
		isRead(t, with(b, 0x16, 0x0f), 0x16, byte(0x70+set))
		b.On = true
		isRead(t, b, 0x16, byte(0xf0+set))
		isRead(t, with(b, 0x16, 0x0f), 0x16, byte(0xf0+set))
	}
}

func TestWriteNothing(t *testing.T) {
	for x := range 0x100 {
		for _, n := range noSuch {
			written(t, Board{}, n, byte(x), Board{})
			written(t, busy(), n, byte(x), busy())
		}
		off := busy()
		off.On = false
		for n := range 0x20 {
			if n != 0x16 {
				written(t, Board{}, n, byte(x), Board{})
				written(t, off, n, byte(x), off)
			}
		}
	}
}

// TestWriteWave: registers from 20 on, whether the hardware is on or not.
func TestWriteWave(t *testing.T) {
	off := busy()
	off.On = false
	for n := 0x20; n < 0x30; n++ {
		for x := range 0x100 {
			for _, b := range []Board{{}, off, silent(), busy()} {
				written(t, b, n, byte(x), with(b, n, byte(x)))
			}
		}
	}
}

// TestWriteOthers: registers from which nothing follows.
func TestWriteOthers(t *testing.T) {
	for _, n := range []int{0, 3, 5, 8, 13, 15, 18, 0x14, 0x15, 0x17, 0x18, 0x1f} {
		for x := range 0x100 {
			for _, b := range []Board{silent(), busy()} {
				written(t, b, n, byte(x), with(b, n, byte(x)))
			}
		}
	}
}

func TestPower(t *testing.T) {
	off := busy()
	off.On = false
	again := off
	again.On, again.Div, again.Step = true, 0, 0
	// Div and Step stay, and so do the registers from 16 on.
	want := Board{Div: 1000, Step: 5}
	for n := 0x17; n < 0x30; n++ {
		want.Regs[n] = byte(0x90 + n)
	}
	for x := range 0x80 {
		written(t, busy(), 0x16, byte(x), want)
		written(t, off, 0x16, byte(x), want)
		written(t, busy(), 0x16, byte(0x80+x), busy())
		written(t, off, 0x16, byte(0x80+x), again)
		written(t, Board{}, 0x16, byte(0x80+x), Board{On: true})
		written(t, silent(), 0x16, byte(x), Board{})
	}
	odd := with(busy(), 0x16, 0x33)
	written(t, odd, 0x16, 0x00, with(want, 0x16, 0x33))
}

func TestWriteLength(t *testing.T) {
	for v := range 4 {
		for x := range 0x100 {
			for _, b := range []Board{silent(), busy()} {
				want := with(b, 5*v+1, byte(x))
				if v == 2 {
					want.Voices[v].Length = 256 - x
				} else {
					want.Voices[v].Length = 64 - x%64
				}
				written(t, b, 5*v+1, byte(x), want)
			}
		}
	}
}

// TestWriteReady: what switches a channel off, and what does not.
func TestWriteReady(t *testing.T) {
	for x := range 0x100 {
		for _, v := range []int{0, 1, 3} {
			want := with(busy(), 5*v+2, byte(x))
			want.Voices[v].On = x >= 8
			written(t, busy(), 5*v+2, byte(x), want)
			want = with(silent(), 5*v+2, byte(x))
			written(t, silent(), 5*v+2, byte(x), want)
		}
		want := with(busy(), 10, byte(x))
		want.Voices[2].On = x >= 0x80
		written(t, busy(), 10, byte(x), want)
		written(t, silent(), 10, byte(x), with(silent(), 10, byte(x)))
		// The level of channel 2 does not make it ready.
		written(t, busy(), 12, byte(x), with(busy(), 12, byte(x)))
		unready := with(busy(), 10, 0x7f)
		want = with(unready, 12, byte(x))
		want.Voices[2].On = false
		written(t, unready, 12, byte(x), want)
	}
}

// TestWriteNoTrigger: register 4 without bit 7.
func TestWriteNoTrigger(t *testing.T) {
	for v := range 4 {
		for x := range 0x80 {
			for _, b := range []Board{silent(), busy()} {
				written(t, b, 5*v+4, byte(x), with(b, 5*v+4, byte(x)))
			}
		}
	}
}

func TestTrigger(t *testing.T) {
	for _, x := range []struct {
		v        int
		first    byte // register 0
		envelope byte // register 2
		length   int
		want     Voice
	}{
		{1, 0x00, 0xf1, 0, Voice{On: true, Length: 64, Level: 15, Wait: 1}},
		{1, 0x00, 0xf1, 1, Voice{On: true, Length: 1, Level: 15, Wait: 1}},
		{1, 0x00, 0xf1, 64, Voice{On: true, Length: 64, Level: 15, Wait: 1}},
		{1, 0x00, 0xf1, -1, Voice{On: true, Length: -1, Level: 15, Wait: 1}},
		{1, 0x00, 0x08, 0, Voice{On: true, Length: 64}},
		{1, 0x00, 0x10, 0, Voice{On: true, Length: 64, Level: 1}},
		{1, 0xff, 0x07, 0, Voice{Length: 64, Wait: 7}},
		{1, 0xff, 0x00, 5, Voice{Length: 5}},
		{3, 0x00, 0xa5, 0, Voice{On: true, Length: 64, Level: 10, Wait: 5}},
		{3, 0xff, 0x04, 0, Voice{Length: 64, Wait: 4}},
		{2, 0x80, 0x00, 0, Voice{On: true, Length: 256}},
		{2, 0xff, 0x65, 100, Voice{On: true, Length: 100, Level: 6, Wait: 5}},
		{2, 0x7f, 0xff, 0, Voice{Length: 256, Level: 15, Wait: 7}},
		{0, 0x00, 0xf1, 0, Voice{On: true, Length: 64, Level: 15, Wait: 1}},
		{0, 0xff, 0x07, 0, Voice{Length: 64, Wait: 7}},
	} {
		for high := 0x80; high < 0x100; high++ {
			for _, on := range []bool{false, true} {
				b := with(silent(), 5*x.v, x.first, 0x2a, x.envelope, 0x00)
				b.Voices[x.v] = Voice{On: on, Length: x.length, Level: 9, Wait: 9}
				want := with(b, 5*x.v+4, byte(high))
				want.Voices[x.v] = x.want
				if x.v == 0 {
					want.Pitch, want.Slide = high%8*256, 8
					if x.first != 0 {
						want.Slides, want.Slide = true, 7
					}
				}
				written(t, b, 5*x.v+4, byte(high), want)
			}
		}
	}
}

// TestTriggerSlide: what a trigger of channel 0 does in addition.
func TestTriggerSlide(t *testing.T) {
	for _, x := range []struct {
		sweep, low, high byte
		pitch, slide     int
		slides, on       bool
	}{
		{0x00, 0x00, 0x80, 0, 8, false, true},
		{0x00, 0xff, 0xff, 2047, 8, false, true},
		{0x08, 0xff, 0x87, 2047, 8, false, true},
		{0x80, 0xff, 0x87, 2047, 8, false, true},
		{0x88, 0x34, 0xba, 0x234, 8, false, true},
		{0x10, 0xff, 0x87, 2047, 1, true, true},
		{0x70, 0x00, 0x84, 1024, 7, true, true},
		{0x01, 0x00, 0x84, 1024, 8, true, true},
		{0x11, 0x00, 0x84, 1024, 1, true, true},
		{0x11, 0x55, 0x85, 1365, 1, true, true},
		{0x11, 0x56, 0x85, 1366, 1, true, false},
		{0x01, 0x56, 0x85, 1366, 8, true, false},
		{0x02, 0x66, 0x86, 1638, 8, true, true},
		{0x02, 0x67, 0x86, 1639, 8, true, false},
		{0x07, 0xf0, 0xc7, 2032, 8, true, true},
		{0x07, 0xf1, 0xc7, 2033, 8, true, false},
		{0x29, 0xff, 0x87, 2047, 2, true, true},
		{0x0f, 0xff, 0x87, 2047, 8, true, true},
		{0x17, 0x00, 0x80, 0, 1, true, true},
		{0x48, 0x01, 0x80, 1, 4, true, true},
	} {
		for _, before := range []bool{false, true} {
			b := with(silent(), 0, x.sweep, 0x2a, 0xf3, x.low)
			b.Slides = before
			b.Pitch, b.Slide = 77, 78
			b.Voices[0] = Voice{On: before, Length: 3, Level: 2, Wait: 1}
			want := with(b, 4, x.high)
			want.Slides, want.Pitch, want.Slide = x.slides, x.pitch, x.slide
			want.Voices[0] = Voice{On: x.on, Length: 3, Level: 15, Wait: 3}
			written(t, b, 4, x.high, want)
		}
	}
}

// TestTriggerAlone: other channels do not slide, and nothing else changes.
func TestTriggerAlone(t *testing.T) {
	for v := 1; v < 4; v++ {
		b := with(busy(), 5*v+2, 0x35)
		b = with(b, 10, 0x80)
		want := with(b, 5*v+4, 0x87)
		want.Voices[v] = Voice{On: true, Length: 10 + v, Level: 3, Wait: 5}
		written(t, b, 5*v+4, 0x87, want)
	}
}
