package header

import (
	"bytes"
	"strings"
	"testing"

	"retrograde/api"
)

// sealed sets the header checksum of rom, and returns rom.
func sealed(rom []byte) []byte {
	sum := 0
	for _, x := range rom[0x134:0x14d] {
		sum += int(x) + 1
	}
	rom[0x14d] = byte(-sum)
	return rom
}

// cartridge returns a ROM of the given size with these bytes from 147 to 149.
func cartridge(size int, mapper, banks, ram byte) []byte {
	rom := make([]byte, size)
	rom[0x147], rom[0x148], rom[0x149] = mapper, banks, ram
	return sealed(rom)
}

// parsed checks the result of Parse.
func parsed(t *testing.T, rom []byte, want Header, errno api.Errno) {
	t.Helper()
	if h, e := Parse(rom); h != want || e != errno {
		said := rom[min(0x134, len(rom)):min(0x150, len(rom))]
		t.Errorf("Parse of %#x bytes with the header %x = %+v, %d, want %+v, %d", len(rom), said, h, e, want, errno)
	}
}

func TestExample(t *testing.T) {
	rom := make([]byte, 0x8000)
	rom[0x14d] = 0xe7
	parsed(t, rom, Header{Kind: 0, Banks: 2, Ram: 0}, api.OK)
}

func TestOrdinary(t *testing.T) {
	rom := make([]byte, 0x20000)
	copy(rom[0x134:], "POCKET TEST")
	rom[0x147], rom[0x148], rom[0x149] = 0x10, 2, 3
	rom[0x14d] = 0xac
	rom[0x14e], rom[0x14f] = 0x03, 0xe8
	rom[0x150] = 1
	want := Header{Title: "POCKET TEST", Kind: 3, Clock: true, Battery: true, Banks: 8, Ram: 0x8000, Whole: true}
	parsed(t, rom, want, api.OK)
}

func TestMappers(t *testing.T) {
	want := map[byte]Header{
		0x00: {"", 0, false, false, 2, 0, false},
		0x08: {"", 0, false, false, 2, 0, false},
		0x09: {"", 0, false, true, 2, 0, false},
		0x01: {"", 1, false, false, 2, 0, false},
		0x02: {"", 1, false, false, 2, 0, false},
		0x03: {"", 1, false, true, 2, 0, false},
		0x05: {"", 2, false, false, 2, 512, false},
		0x06: {"", 2, false, true, 2, 512, false},
		0x0f: {"", 3, true, true, 2, 0, false},
		0x10: {"", 3, true, true, 2, 0, false},
		0x11: {"", 3, false, false, 2, 0, false},
		0x12: {"", 3, false, false, 2, 0, false},
		0x13: {"", 3, false, true, 2, 0, false},
		0x19: {"", 5, false, false, 2, 0, false},
		0x1a: {"", 5, false, false, 2, 0, false},
		0x1b: {"", 5, false, true, 2, 0, false},
		0x1c: {"", 5, false, false, 2, 0, false},
		0x1d: {"", 5, false, false, 2, 0, false},
		0x1e: {"", 5, false, true, 2, 0, false},
	}
	for x := range 256 {
		h, found := want[byte(x)]
		errno := api.OK
		if !found {
			errno = api.ErrKind
		}
		parsed(t, cartridge(0x8000, byte(x), 0, 0), h, errno)
	}
}

func TestBanks(t *testing.T) {
	for x, banks := range []int{2, 4, 8, 16, 32, 64, 128, 256, 512} {
		parsed(t, cartridge(banks*16384, 0x19, byte(x), 0), Header{Kind: 5, Banks: banks}, api.OK)
	}
	for x := 9; x < 256; x++ {
		parsed(t, cartridge(0x8000, 0x19, byte(x), 0), Header{}, api.ErrRange)
	}
	// The next power of two would be the number of banks of the value 9.
	parsed(t, cartridge(1024*16384, 0x19, 9, 0), Header{}, api.ErrRange)
}

func TestRam(t *testing.T) {
	for _, x := range []struct {
		mapper byte
		kind   int
	}{{0x08, 0}, {0x02, 1}, {0x12, 3}, {0x1a, 5}} {
		for ram, size := range []int{0, 2048, 8192, 32768, 131072, 65536} {
			parsed(t, cartridge(0x8000, x.mapper, 0, byte(ram)), Header{Kind: x.kind, Banks: 2, Ram: size}, api.OK)
		}
	}
	for ram := range 6 {
		parsed(t, cartridge(0x8000, 0x05, 0, byte(ram)), Header{Kind: 2, Banks: 2, Ram: 512}, api.OK)
	}
	for _, mapper := range []byte{0x08, 0x02, 0x05, 0x12, 0x1a} {
		for ram := 6; ram < 256; ram++ {
			parsed(t, cartridge(0x8000, mapper, 0, byte(ram)), Header{}, api.ErrRange)
		}
	}
}

func TestTitle(t *testing.T) {
	for _, x := range []struct{ bytes, want string }{
		{"", ""},
		{"A", "A"},
		{"RETRO\x01GRADE", "RETRO?GRADE"},
		{"ONE\x00TWO", "ONE"},
		{"\x00NONE", ""},
		{"FOURTEEN BYTES\x00AB", "FOURTEEN BYTES"},
		{"FIFTEEN BYTES..", "FIFTEEN BYTES.."},
		{"FIFTEEN BYTES..\x80AND", "FIFTEEN BYTES.."},
		{"FIFTEEN BYTES..AND", "FIFTEEN BYTES.."},
		{"  spaces  ", "  spaces  "},
		{"~}|{ !\"#", "~}|{ !\"#"},
		{"\x1f \x7e\x7f\x80\xff", "? ~???"},
		{"\xc3\xa9t\xc3\xa9", "??t??"}, // bytes are replaced, not runes
		{strings.Repeat("\xff", 15), strings.Repeat("?", 15)},
	} {
		rom := make([]byte, 0x8000)
		copy(rom[0x134:], x.bytes)
		parsed(t, sealed(rom), Header{Title: x.want, Banks: 2}, api.OK)
	}
}

func TestTitleOfEveryByte(t *testing.T) {
	for at := range 15 {
		for x := range 256 {
			rom := make([]byte, 0x8000)
			copy(rom[0x134:], "ABCDEFGHIJKLMNO")
			rom[0x134+at] = byte(x)
			want := "ABCDEFGHIJKLMNO"[:at]
			if x >= 0x20 && x <= 0x7e {
				want += string(rune(x)) + "ABCDEFGHIJKLMNO"[at+1:]
			} else if x != 0 {
				want += "?" + "ABCDEFGHIJKLMNO"[at+1:]
			}
			parsed(t, sealed(rom), Header{Title: want, Banks: 2}, api.OK)
		}
	}
}

func TestWhole(t *testing.T) {
	rom := cartridge(0x8000, 0, 0, 0) // whose sum is e7, that of the byte at 14d
	rom[0], rom[0x7fff] = 0x20, 0xff  // now 206
	want := Header{Banks: 2}
	for high := range 256 {
		for _, low := range []byte{0, 2, 5, 6, 7, 0xff} {
			rom[0x14e], rom[0x14f] = byte(high), low
			want.Whole = high == 2 && low == 6
			parsed(t, rom, want, api.OK)
		}
	}
	rom[0x14e], rom[0x14f] = 2, 6
	for at := range rom {
		// The bytes of the header change more than Whole, so they are left out.
		if at < 0x134 || at > 0x14f {
			rom[at]++
			want.Whole = false
			parsed(t, rom, want, api.OK)
			rom[at]--
		}
	}
	want.Whole = true
	parsed(t, rom, want, api.OK)
}

func TestShort(t *testing.T) {
	room := cartridge(0x8000, 0, 0, 0)
	for length := range 0x150 {
		// The memory beyond the length would make up a header, and must not count.
		rom := room[:length]
		parsed(t, rom, Header{}, api.ErrShort)
		if c, s := Check(rom), Sum(rom); c != 0 || s != 0 {
			t.Errorf("Check and Sum of %#x bytes = %02x, %04x, want 0", length, c, s)
		}
	}
	parsed(t, nil, Header{}, api.ErrShort)
	if c, s := Check(nil), Sum(nil); c != 0 || s != 0 {
		t.Errorf("Check and Sum of nil = %02x, %04x, want 0", c, s)
	}
}

func TestShortest(t *testing.T) {
	rom := bytes.Repeat([]byte{1}, 0x150)
	if c := Check(rom); c != 0xce {
		t.Errorf("Check = %02x, want ce", c)
	}
	if s := Sum(rom); s != 0x14e {
		t.Errorf("Sum = %04x, want 014e", s)
	}
	parsed(t, rom, Header{}, api.ErrSum)
	parsed(t, cartridge(0x150, 0, 0, 0), Header{}, api.ErrSize)
}

func TestWrongCheck(t *testing.T) {
	rom := cartridge(0x8000, 0x13, 0, 2)
	right := rom[0x14d]
	for x := range 256 {
		rom[0x14d] = byte(x)
		if byte(x) != right {
			parsed(t, rom, Header{}, api.ErrSum)
		}
	}
	rom[0x14d] = right
	parsed(t, rom, Header{Kind: 3, Battery: true, Banks: 2, Ram: 0x2000}, api.OK)
}

func TestWrongSize(t *testing.T) {
	for _, x := range []struct {
		banks byte
		sizes []int
	}{
		{0, []int{0x150, 0x4000, 0x7fff, 0x8001, 0xc000, 0x10000}},
		{1, []int{0x150, 0x8000, 0xffff, 0x10001, 0x20000}},
		{8, []int{0x150, 0x8000, 0x400000, 0x7fffff, 0x800001}},
	} {
		for _, size := range x.sizes {
			parsed(t, cartridge(size, 0, x.banks, 0), Header{}, api.ErrSize)
		}
	}
	// The size counts, not the capacity.
	parsed(t, cartridge(0x10000, 0, 0, 0)[:0x8000], Header{Banks: 2}, api.OK)
	parsed(t, cartridge(0x10000, 0, 1, 0)[:0x8000], Header{}, api.ErrSize)
}

// TestOrderOfErrors: of several errors, the first is returned.
func TestOrderOfErrors(t *testing.T) {
	const wrong = 0x200 // a length that no ROM has
	for _, x := range []struct {
		size               int
		mapper, banks, ram byte
		sum                bool
		want               api.Errno
	}{
		{wrong, 4, 9, 6, true, api.ErrSum},
		{wrong, 0, 0, 0, true, api.ErrSum},
		{0x8000, 4, 0, 0, true, api.ErrSum},
		{0x8000, 0, 9, 0, true, api.ErrSum},
		{0x8000, 0, 0, 6, true, api.ErrSum},
		{wrong, 4, 9, 6, false, api.ErrKind},
		{wrong, 4, 0, 0, false, api.ErrKind},
		{0x8000, 4, 9, 0, false, api.ErrKind},
		{0x8000, 4, 0, 6, false, api.ErrKind},
		{wrong, 0, 9, 6, false, api.ErrRange},
		{wrong, 0, 9, 0, false, api.ErrRange},
		{wrong, 0, 0, 6, false, api.ErrRange},
		{wrong, 0, 0, 0, false, api.ErrSize},
	} {
		rom := cartridge(x.size, x.mapper, x.banks, x.ram)
		if x.sum {
			rom[0x14d]++
		}
		parsed(t, rom, Header{}, x.want)
		parsed(t, rom[:0x14f], Header{}, api.ErrShort)
	}
}

func TestCheck(t *testing.T) {
	rom := make([]byte, 0x150)
	if c := Check(rom); c != 0xe7 {
		t.Errorf("Check of zero bytes = %02x, want e7", c)
	}
	for at := range rom {
		rom[at] = 0x81
		want := byte(0xe7)
		if at >= 0x134 && at <= 0x14c {
			want = 0x66
		}
		if c := Check(rom); c != want {
			t.Errorf("Check with 81 at %03x = %02x, want %02x", at, c, want)
		}
		rom[at] = 0
	}
	copy(rom[0x134:], bytes.Repeat([]byte{0xff}, 0x19))
	if c := Check(rom); c != 0 {
		t.Errorf("Check of ff = %02x, want 0", c)
	}
}

func TestSum(t *testing.T) {
	rom := make([]byte, 0x300)
	for at := range rom {
		rom[at] = 0x81
		want := uint16(0x81)
		if at == 0x14e || at == 0x14f {
			want = 0
		}
		if s := Sum(rom); s != want {
			t.Errorf("Sum with 81 at %03x = %04x, want %04x", at, s, want)
		}
		rom[at] = 0
	}
	for _, x := range []struct {
		size int
		want uint16
	}{{0x150, 0x4cb2}, {0x8000, 0x7e02}, {0x10000, 0xfe02}, {0x10003, 0x00ff}} {
		if s := Sum(bytes.Repeat([]byte{0xff}, x.size)); s != x.want {
			t.Errorf("Sum of %#x bytes ff = %04x, want %04x", x.size, s, x.want)
		}
	}
}
