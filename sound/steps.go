package sound

// How many cycles a step of the frame sequencer takes, and how many steps it
// has.
const (
	stepCycles     = 2048
	sequencerSteps = 8
)

// The highest frequency, and the highest level.
const (
	maxPitch = 2047
	maxLevel = 15
)

// longestSlide is the time until the next slide if the period is 0.
const longestSlide = 8

// Tick returns the board after a cycle.
func (b Board) Tick() Board {
	if !b.On {
		return b
	}
	b.Div++
	if b.Div == stepCycles {
		b.Div = 0
		b.perform()
		b.Step = (b.Step + 1) & (sequencerSteps - 1)
	}
	return b
}

// perform performs the step of the frame sequencer that is due.
func (b *Board) perform() {
	switch b.Step {
	case 0, 4:
		b.shorten()
	case 2, 6:
		b.shorten()
		if b.Slides {
			b.countSlide()
		}
	case 7:
		b.changeLevels()
	}
}

// shorten lets the lengths that are counted become less.
func (b *Board) shorten() {
	for v := range b.Voices {
		voice := &b.Voices[v]
		if b.register(v, registerHigh)&countBit == 0 || voice.Length <= 0 {
			continue
		}
		voice.Length--
		if voice.Length == 0 {
			voice.On = false
		}
	}
}

// countSlide counts the time until the frequency slides, and lets it slide
// then. A period of 0 only counts.
func (b *Board) countSlide() {
	if b.Slide > 1 {
		b.Slide--
		return
	}
	b.Slide = b.slideTime()
	if b.period() != 0 {
		b.slide()
	}
}

// slide lets the frequency become the next one, unless that is too high or the
// same.
func (b *Board) slide() {
	if b.stopTooHigh() || b.shift() == 0 {
		return
	}
	b.Pitch = b.nextPitch()
	b.Regs[registerLow] = byte(b.Pitch)
	b.Regs[registerHigh] = b.Regs[registerHigh]&^highBits | byte(b.Pitch>>highShift)&highBits
	b.stopTooHigh()
}

// stopTooHigh switches channel 0 off if its next frequency is too high, and
// reports whether it is.
func (b *Board) stopTooHigh() bool {
	if b.nextPitch() <= maxPitch {
		return false
	}
	b.Voices[slidingVoice].On = false
	return true
}

// nextPitch returns the next frequency.
func (b *Board) nextPitch() int {
	by := b.Pitch >> b.shift()
	if b.Regs[registerSlide]&lowerBit != 0 {
		by = -by
	}
	return b.Pitch + by
}

// slideTime returns the time until the frequency slides.
func (b *Board) slideTime() int {
	if b.period() == 0 {
		return longestSlide
	}
	return b.period()
}

// period returns bits 4 to 6 of register 0.
func (b *Board) period() int {
	return int(b.Regs[registerSlide] >> periodShift & periodBits)
}

// shift returns bits 0 to 2 of register 0.
func (b *Board) shift() int {
	return int(b.Regs[registerSlide] & shiftBits)
}

// changeLevels performs the envelope of each channel that has one.
func (b *Board) changeLevels() {
	for v := range b.Voices {
		if v != waveVoice {
			b.Voices[v].changeLevel(b.register(v, registerEnvelope))
		}
	}
}

// changeLevel counts the time until the level changes, and changes it then, as
// the envelope register says.
func (v *Voice) changeLevel(envelope byte) {
	wait := int(envelope & waitBits)
	if wait == 0 {
		return
	}
	if v.Wait > 1 {
		v.Wait--
		return
	}
	v.Wait = wait
	upward := envelope&upwardBit != 0
	if upward && v.Level < maxLevel {
		v.Level++
	}
	if !upward && v.Level > 0 {
		v.Level--
	}
}
