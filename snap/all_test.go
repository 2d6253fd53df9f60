package snap

import (
	"bytes"
	"encoding/binary"
	"strings"
	"testing"

	"retrograde/api"
)

// The tests of this file hold Pack and Unpack against a second reading of the
// document, which works on a text with a mark for each byte: = for one that is
// equal to that of the base, x for another one.

// marksOf returns the marks of all bytes.
func marksOf(base, b []byte) string {
	marks := make([]byte, len(b))
	for i := range b {
		marks[i] = 'x'
		if base[i] == b[i] {
			marks[i] = '='
		}
	}
	return string(marks)
}

// wantPack returns the pack of b.
func wantPack(base, b []byte) []byte {
	marks := marksOf(base, b)
	var p []byte
	for {
		left := strings.TrimLeft(marks, "=")
		p = binary.AppendUvarint(p, uint64(len(marks)-len(left)))
		if left == "" {
			return p
		}
		end := len(strings.TrimRight(left, "="))
		if four := strings.Index(left, "===="); four >= 0 {
			end = four
		}
		p = binary.AppendUvarint(p, uint64(end))
		at := len(b) - len(left)
		p = append(p, b[at:at+end]...)
		marks = left[end:]
	}
}

// wantNumber returns the number that p begins with, and of how many bytes.
func wantNumber(p []byte, left int) (n, size int, errno api.Errno) {
	if len(p) >= 4 && p[0]&p[1]&p[2]&p[3] >= 0x80 {
		return 0, 0, api.ErrKind
	}
	x, size := binary.Uvarint(p)
	switch {
	case size <= 0:
		return 0, 0, api.ErrShort
	case len(binary.AppendUvarint(nil, x)) != size:
		return 0, 0, api.ErrKind
	case x > uint64(left):
		return 0, 0, api.ErrSize
	}
	return int(x), size, api.OK
}

// wantUnpack returns what Unpack should return.
func wantUnpack(base, p []byte) ([]byte, api.Errno) {
	b := bytes.Clone(base)
	at, done := 0, 0
	for turn := 0; ; turn++ {
		n, size, e := wantNumber(p[at:], len(base)-done)
		if e != api.OK {
			return nil, e
		}
		at += size
		if turn%2 == 1 {
			if at+n > len(p) {
				return nil, api.ErrShort
			}
			at += copy(b[done:], p[at:at+n])
		}
		done += n
		if turn%2 == 0 && done == len(base) {
			break
		}
	}
	switch {
	case at < len(p):
		return nil, api.ErrTail
	case !bytes.Equal(wantPack(base, b), p):
		return nil, api.ErrKind
	}
	return b, api.OK
}

// TestEveryPattern: all patterns of equal and different bytes, of every length
// up to 14.
func TestEveryPattern(t *testing.T) {
	base := []byte{3, 1, 4, 1, 5, 9, 2, 6, 5, 3, 5, 8, 9, 7}
	for n := range len(base) + 1 {
		for pattern := range 1 << n {
			b := bytes.Clone(base[:n])
			for i := range b {
				if pattern>>i&1 != 0 {
					b[i] += byte(i + 1)
				}
			}
			isPack(t, base[:n], b, wantPack(base[:n], b))
		}
	}
}

// sequences calls visit with all sequences of a length of these bytes.
func sequences(alphabet string, length int, visit func(p []byte)) {
	p := make([]byte, length)
	var set func(at int)
	set = func(at int) {
		if at == length {
			visit(p)
			return
		}
		for i := range len(alphabet) {
			p[at] = alphabet[i]
			set(at + 1)
		}
	}
	set(0)
}

// TestEverySequence: all short sequences as packs, most of which are none.
func TestEverySequence(t *testing.T) {
	seen := map[api.Errno]int{}
	check := func(base, p []byte) {
		want, errno := wantUnpack(base, p)
		unpacked(t, base, p, want, errno)
		seen[errno]++
		if errno == api.OK {
			packed(t, base, want, p, api.OK)
		}
	}
	for n := range 7 {
		base := []byte{0, 1, 2, 1, 0, 1}[:n]
		for length := range 6 {
			sequences("\x00\x01\x02\x03\x05\x7f\x80\x82\xff", length, func(p []byte) { check(base, p) })
		}
		for length := 6; length < 10; length++ {
			sequences("\x00\x01\x02", length, func(p []byte) { check(base, p) })
		}
	}
	for _, e := range []api.Errno{api.OK, api.ErrShort, api.ErrTail, api.ErrKind, api.ErrSize} {
		if seen[e] < 100 {
			t.Errorf("error %d: only %d times", e, seen[e])
		}
	}
}

// numbers returns a function that returns other numbers in each call, the same
// in each run.
func numbers() func(below int) int {
	x := uint64(1)
	return func(below int) int {
		x = x*6364136223846793005 + 1442695040888963407
		return int((x >> 33) % uint64(below))
	}
}

// varied returns the bytes of base with runs of some of them changed.
func varied(base []byte, number func(int) int) []byte {
	b := bytes.Clone(base)
	for at := number(300); at < len(b); at += 1 + number(1+number(300)) {
		for range number(1 + number(200)) {
			if at < len(b) {
				b[at] = byte(number(4))
				at++
			}
		}
	}
	return b
}

// TestVaried: P17.3, at varied bytes, and at their packs with faults.
func TestVaried(t *testing.T) {
	number := numbers()
	for range 500 {
		base := make([]byte, number(3000))
		for i := range base {
			base[i] = byte(number(4))
		}
		b := varied(base, number)
		p := wantPack(base, b)
		isPack(t, base, b, p)
		for range 20 {
			wrong := bytes.Clone(p)
			at := number(len(p))
			switch number(4) {
			case 0:
				wrong = wrong[:at]
			case 1:
				wrong = append(wrong, byte(number(256)))
			case 2:
				wrong[at] ^= 1 << number(8)
			case 3:
				wrong = append(append(wrong[:at:at], byte(number(256))), p[at:]...)
			}
			want, errno := wantUnpack(base, wrong)
			unpacked(t, base, wrong, want, errno)
			if errno == api.OK {
				packed(t, base, want, wrong, api.OK)
			}
		}
	}
}
