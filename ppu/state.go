package ppu

import "retrograde/api"

// Where the parts of an encoded state begin.
const (
	oamStart      = videoBytes
	registerStart = oamStart + oamBytes
	dotPlace      = registerStart + registerCount
	ownPlace      = dotPlace + 1
	framesPlace   = ownPlace + 1
	signalPlace   = framesPlace + 2
	pictureStart  = signalPlace + 1
	stateBytes    = pictureStart + api.Shown*api.Wide
)

// maxShade is the greatest shade.
const maxShade = 3

// Encode returns the state of the unit.
func (u *Unit) Encode() []byte {
	if u == nil {
		return nil
	}
	b := make([]byte, 0, stateBytes)
	b = append(b, u.video[:]...)
	b = append(b, u.oam[:]...)
	b = append(b, u.registers[:]...)
	b = append(b, u.dot, u.own, byte(u.frames), byte(u.frames>>8), number(u.active))
	for line := range u.picture {
		b = append(b, u.picture[line][:]...)
	}
	return b
}

// Decode lets the unit take over an encoded state.
func (u *Unit) Decode(b []byte) api.Errno {
	switch {
	case u == nil:
		return api.ErrKind
	case len(b) != stateBytes:
		return api.ErrSize
	case !isState(b):
		return api.ErrKind
	}
	u.take(b)
	return api.OK
}

// isState reports whether bytes, as many as a state has, are one.
func isState(b []byte) bool {
	if b[registerStart+current] >= api.Lines || b[dotPlace] >= api.LineTicks {
		return false
	}
	if b[registerStart+selection]&^selectors != 0 || b[signalPlace] > 1 {
		return false
	}
	for _, shade := range b[pictureStart:] {
		if shade > maxShade {
			return false
		}
	}
	return true
}

// take sets the unit to the state that bytes are.
func (u *Unit) take(b []byte) {
	copy(u.video[:], b)
	copy(u.oam[:], b[oamStart:])
	copy(u.registers[:], b[registerStart:])
	u.dot, u.own = b[dotPlace], b[ownPlace]
	u.frames = uint16(b[framesPlace]) | uint16(b[framesPlace+1])<<8
	u.active = b[signalPlace] != 0
	for line := range u.picture {
		copy(u.picture[line][:], b[pictureStart+line*api.Wide:])
	}
}

// number returns 1 for true and 0 for false.
func number(x bool) byte {
	if x {
		return 1
	}
	return 0
}
