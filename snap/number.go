package snap

import "retrograde/api"

// A byte of a number has a part of it in its lower bits, and one bit that says
// whether more bytes follow.
const (
	partBits = 7
	partMask = 0x7f
	moreMask = 0x80
)

// maxBytes is how many bytes a number that is read has at most.
const maxBytes = 4

// appendNumber appends n to p, in as few bytes as possible.
func appendNumber(p []byte, n int) []byte {
	for n > partMask {
		p = append(p, byte(n&partMask|moreMask))
		n >>= partBits
	}
	return append(p, byte(n))
}

// takeNumber reads the number that p begins with, which is at most most, and
// returns it and the bytes after it.
func takeNumber(p []byte, most int) (int, []byte, api.Errno) {
	n := 0
	for i, x := range p[:min(len(p), maxBytes)] {
		n |= int(x&partMask) << (i * partBits)
		if x&moreMask != 0 {
			continue
		}
		if x == 0 && i > 0 {
			return 0, nil, api.ErrKind
		}
		if n > most {
			return 0, nil, api.ErrSize
		}
		return n, p[i+1:], api.OK
	}
	if len(p) >= maxBytes {
		return 0, nil, api.ErrKind
	}
	return 0, nil, api.ErrShort
}
