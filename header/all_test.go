package header

import (
	"bytes"
	"testing"

	"retrograde/api"
)

// The tests of this file hold Parse against a second reading of the document,
// at many cartridges, and change what must not count.

// in reports whether x is one of the bytes.
func in(x byte, list ...byte) bool { return bytes.IndexByte(list, x) >= 0 }

// kindOf returns the kind of a mapper, or -1.
func kindOf(mapper byte) int {
	switch {
	case in(mapper, 0, 8, 9):
		return 0
	case mapper >= 1 && mapper <= 3:
		return 1
	case in(mapper, 5, 6):
		return 2
	case mapper >= 0xf && mapper <= 0x13:
		return 3
	case mapper >= 0x19 && mapper <= 0x1e:
		return 5
	}
	return -1
}

// ramOf returns the size of the RAM for a kind and a byte at 149.
func ramOf(kind int, x byte) int {
	if kind == 2 {
		return 0x200
	}
	return map[byte]int{1: 0x800, 2: 0x2000, 3: 0x8000, 4: 0x20000, 5: 0x10000}[x]
}

// titleOf returns the title of a ROM.
func titleOf(rom []byte) (text string) {
	for at := 0x134; at <= 0x142 && rom[at] != 0; at++ {
		if rom[at] >= 0x20 && rom[at] <= 0x7e {
			text += string(rom[at : at+1])
		} else {
			text += "?"
		}
	}
	return text
}

// checksOf returns the two checksums of a ROM, by numbers that do not wrap.
func checksOf(rom []byte) (check, sum int) {
	for at, x := range rom {
		if at >= 0x134 && at <= 0x14c {
			check += 255 - int(x)
		}
		if at != 0x14e && at != 0x14f {
			sum += int(x)
		}
	}
	return check % 0x100, sum % 0x10000
}

// wantOf returns what Parse should return.
func wantOf(rom []byte) (Header, api.Errno) {
	if len(rom) < 0x150 {
		return Header{}, api.ErrShort
	}
	mapper, banks, ram := rom[0x147], rom[0x148], rom[0x149]
	check, sum := checksOf(rom)
	switch {
	case int(rom[0x14d]) != check:
		return Header{}, api.ErrSum
	case kindOf(mapper) < 0:
		return Header{}, api.ErrKind
	case banks > 8 || ram > 5:
		return Header{}, api.ErrRange
	case len(rom) != 0x8000<<banks:
		return Header{}, api.ErrSize
	}
	return Header{
		Title:   titleOf(rom),
		Kind:    kindOf(mapper),
		Clock:   in(mapper, 0xf, 0x10),
		Battery: in(mapper, 3, 6, 9, 0xf, 0x10, 0x13, 0x1b, 0x1e),
		Banks:   2 << banks,
		Ram:     ramOf(kindOf(mapper), ram),
		Whole:   int(rom[0x14e])*256+int(rom[0x14f]) == sum,
	}, api.OK
}

// numbers returns a function that returns other numbers in each call, the same
// in each run.
func numbers() func(below int) int {
	x := uint32(1)
	return func(below int) int {
		x = x*1664525 + 1013904223
		return int(x>>8) % below
	}
}

// scatter sets count bytes of b to numbers.
func scatter(b []byte, count int, number func(int) int) {
	for range count {
		b[number(len(b))] = byte(number(256))
	}
}

// varied returns a ROM that is right in most of its parts.
func varied(number func(int) int) []byte {
	banks := number(3)
	size := 0x8000 << banks
	if number(8) == 0 {
		size = 0x150 + number(0x8000)
	}
	rom := make([]byte, size)
	scatter(rom, 20, number)
	scatter(rom[0x134:0x147], number(40), number)
	rom[0x147], rom[0x148], rom[0x149] = byte(number(0x20)), byte(banks), byte(number(6))
	if number(8) == 0 {
		rom[0x147+number(3)] = byte(number(256))
	}
	check, _ := checksOf(rom)
	rom[0x14d] = byte(check)
	if number(8) == 0 {
		rom[0x134+number(0x1c)]++
	}
	if number(2) == 0 {
		_, sum := checksOf(rom)
		rom[0x14e], rom[0x14f] = byte(sum>>8), byte(sum)
	}
	return rom
}

func TestManyCartridges(t *testing.T) {
	number := numbers()
	seen := map[api.Errno]int{}
	whole := 0
	for range 4000 {
		rom := varied(number)
		want, errno := wantOf(rom)
		parsed(t, rom, want, errno)
		seen[errno]++
		if want.Whole {
			whole++
		}
		check, sum := checksOf(rom)
		if c, s := Check(rom), Sum(rom); int(c) != check || int(s) != sum {
			t.Errorf("Check and Sum = %02x, %04x, want %02x, %04x", c, s, check, sum)
		}
	}
	for _, errno := range []api.Errno{api.OK, api.ErrSum, api.ErrKind, api.ErrRange, api.ErrSize} {
		if seen[errno] < 50 {
			t.Errorf("only %d of the cartridges have the result %d", seen[errno], errno)
		}
	}
	if whole < 50 || whole > seen[api.OK]-50 {
		t.Errorf("%d of %d cartridges are whole", whole, seen[api.OK])
	}
}

// TestAllSelections: the bytes from 147 to 149 select independently of each other.
func TestAllSelections(t *testing.T) {
	for mapper := range 0x20 {
		for banks := range 4 {
			for ram := range 7 {
				rom := cartridge(0x8000<<banks, byte(mapper), byte(banks), byte(ram))
				want, errno := wantOf(rom)
				parsed(t, rom, want, errno)
			}
		}
	}
}

// TestOtherBytes: bytes outside the header count for Whole alone, and there
// only by their sum.
func TestOtherBytes(t *testing.T) {
	number := numbers()
	for range 300 {
		rom := varied(number)
		want, errno := Parse(rom)
		moved := bytes.Clone(rom)
		for range 20 {
			a, b := number(0x134), 0x150+number(max(1, len(rom)-0x150))
			if b < len(rom) {
				moved[a], moved[b] = moved[b], moved[a]
			}
		}
		parsed(t, moved, want, errno)

		scatter(moved[:0x134], 20, number)
		if len(moved) > 0x150 {
			scatter(moved[0x150:], 20, number)
		}
		_, sum := checksOf(moved)
		want.Whole = errno == api.OK && int(rom[0x14e])*256+int(rom[0x14f]) == sum
		parsed(t, moved, want, errno)
	}
}

// TestArgumentIsNeitherChangedNorKept: a ROM stays as it is, what is beyond its
// length too, and a title stays when its ROM changes.
func TestArgumentIsNeitherChangedNorKept(t *testing.T) {
	number := numbers()
	for range 100 {
		rom := varied(number)
		room := append(bytes.Clone(rom), 1, 2, 3, 4, 5, 6, 7, 8)
		before := bytes.Clone(room)
		h, e := Parse(room[:len(rom)])
		Check(room[:len(rom)])
		Sum(room[:len(rom)])
		if !bytes.Equal(room, before) {
			t.Fatal("the ROM was changed")
		}
		again, errno := Parse(rom)
		clear(room)
		if h != again || e != errno {
			t.Errorf("Parse = %+v, %d, then %+v, %d", h, e, again, errno)
		}
	}
}
