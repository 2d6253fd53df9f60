package snap

import (
	"bytes"
	"encoding/binary"
	"hash/fnv"
	"testing"

	"retrograde/api"
)

// roomy returns the bytes of b in memory that goes on with others.
func roomy(b []byte) []byte {
	whole := append(bytes.Clone(b), 0xa1, 0xa2, 0xa3, 0xa4, 0xa5, 0xa6, 0xa7, 0xa8)
	return whole[:len(b)]
}

// kept checks that b, which roomy returned, is still want, and so is its room.
func kept(t *testing.T, name string, b, want []byte) {
	t.Helper()
	again := roomy(want)
	end := len(want) + 8
	if !bytes.Equal(b[:end], again[:end]) {
		t.Errorf("%s became % x, from % x", name, b[:end], again[:end])
	}
}

// fill sets all bytes of b and of the room behind it to x.
func fill(b []byte, x byte) {
	b = b[:cap(b)]
	for i := range b {
		b[i] = x
	}
}

// packed checks the result of Pack.
func packed(t *testing.T, base, b, want []byte, errno api.Errno) {
	t.Helper()
	roomyBase, roomyB := roomy(base), roomy(b)
	p, e := Pack(roomyBase, roomyB)
	if !bytes.Equal(p, want) || e != errno {
		t.Errorf("Pack of % x from % x = % x, %d, want % x, %d", b, base, p, e, want, errno)
	}
	fill(p, 0xee)
	kept(t, "the base", roomyBase, base)
	kept(t, "the argument", roomyB, b)
}

// unpacked checks the result of Unpack.
func unpacked(t *testing.T, base, p, want []byte, errno api.Errno) {
	t.Helper()
	roomyBase, roomyP := roomy(base), roomy(p)
	b, e := Unpack(roomyBase, roomyP)
	if !bytes.Equal(b, want) || e != errno {
		t.Errorf("Unpack of % x from % x = % x, %d, want % x, %d", p, base, b, e, want, errno)
	}
	fill(b, 0xee)
	kept(t, "the base", roomyBase, base)
	kept(t, "the pack", roomyP, p)
}

// isPack checks that p is the pack of b.
func isPack(t *testing.T, base, b, p []byte) {
	t.Helper()
	packed(t, base, b, p, api.OK)
	unpacked(t, base, p, b, api.OK)
}

// TestExample: the example of the chapter.
func TestExample(t *testing.T) {
	isPack(t, []byte{1, 2, 3}, []byte{1, 9, 3}, []byte{1, 1, 9, 1})
}

func TestPack(t *testing.T) {
	base := []byte{1, 2, 3, 4, 5, 6, 7, 8, 9, 10}
	for _, x := range []struct{ b, p []byte }{
		{[]byte{1, 2, 3, 4, 5, 6, 7, 8, 9, 10}, []byte{10}},
		// One different byte, at both ends and between them.
		{[]byte{0, 2, 3, 4, 5, 6, 7, 8, 9, 10}, []byte{0, 1, 0, 9}},
		{[]byte{1, 2, 3, 4, 0, 6, 7, 8, 9, 10}, []byte{4, 1, 0, 5}},
		{[]byte{1, 2, 3, 4, 5, 6, 7, 0, 9, 10}, []byte{7, 1, 0, 2}},
		{[]byte{1, 2, 3, 4, 5, 6, 7, 8, 9, 0}, []byte{9, 1, 0, 0}},
		// Only different bytes.
		{[]byte{11, 12, 13, 14, 15, 16, 17, 18, 19, 20}, []byte{0, 10, 11, 12, 13, 14, 15, 16, 17, 18, 19, 20, 0}},
		// Three equal bytes in a row are in the run, four are not.
		{[]byte{0, 2, 3, 4, 0, 6, 7, 8, 9, 10}, []byte{0, 5, 0, 2, 3, 4, 0, 5}},
		{[]byte{0, 2, 3, 4, 5, 0, 7, 8, 9, 10}, []byte{0, 1, 0, 4, 1, 0, 4}},
		{[]byte{0, 2, 3, 4, 5, 6, 0, 8, 9, 10}, []byte{0, 1, 0, 5, 1, 0, 3}},
		// Of equal bytes, only those in a row count.
		{[]byte{0, 2, 3, 0, 5, 6, 0, 8, 9, 0}, []byte{0, 10, 0, 2, 3, 0, 5, 6, 0, 8, 9, 0, 0}},
		{[]byte{0, 2, 0, 4, 5, 6, 0, 8, 9, 10}, []byte{0, 7, 0, 2, 0, 4, 5, 6, 0, 3}},
		// Fewer than four at the end are not in the run.
		{[]byte{1, 2, 3, 4, 5, 0, 7, 8, 0, 10}, []byte{5, 4, 0, 7, 8, 0, 1}},
		{[]byte{1, 2, 3, 4, 0, 6, 0, 8, 9, 10}, []byte{4, 3, 0, 6, 0, 3}},
		{[]byte{1, 2, 3, 0, 5, 0, 7, 8, 9, 10}, []byte{3, 3, 0, 5, 0, 4}},
	} {
		isPack(t, base, x.b, x.p)
	}
}

// TestPackOfBase: P17.3, the pack of the base itself is a single number.
func TestPackOfBase(t *testing.T) {
	for _, n := range lengths() {
		b := bytes.Repeat([]byte{7}, n)
		isPack(t, b, b, binary.AppendUvarint(nil, uint64(n)))
	}
}

// TestPackOfOthers: no byte is that of the base.
func TestPackOfOthers(t *testing.T) {
	for _, n := range lengths()[1:] {
		base, b := bytes.Repeat([]byte{7}, n), bytes.Repeat([]byte{8}, n)
		want := binary.AppendUvarint([]byte{0}, uint64(n))
		want = append(append(want, b...), 0)
		isPack(t, base, b, want)
	}
}

// lengths returns the lengths at which the bytes of a number become more.
func lengths() []int {
	return []int{0, 1, 2, 3, 4, 5, 126, 127, 128, 129, 255, 256, 16382, 16383, 16384, 16385, 2097151, 2097152}
}

func TestEmpty(t *testing.T) {
	isPack(t, nil, nil, []byte{0})
	isPack(t, []byte{}, nil, []byte{0})
	isPack(t, nil, []byte{}, []byte{0})
	unpacked(t, nil, nil, nil, api.ErrShort)
	unpacked(t, nil, []byte{}, nil, api.ErrShort)
	unpacked(t, nil, []byte{1}, nil, api.ErrSize)
	unpacked(t, nil, []byte{0, 0}, nil, api.ErrTail)
	unpacked(t, nil, []byte{0x80, 0}, nil, api.ErrKind)
}

func TestPackOfOtherLengths(t *testing.T) {
	all := []byte{1, 2, 3, 4, 5, 6}
	for n := range len(all) + 1 {
		for m := range len(all) + 1 {
			if n != m {
				packed(t, all[:n], all[:m], nil, api.ErrSize)
			}
		}
	}
}

// fails checks the error for numbers in all the places that a number can have.
func fails(t *testing.T, errno api.Errno, numbers [][]byte) {
	t.Helper()
	for _, number := range numbers {
		for _, before := range [][]byte{{}, {1}, {1, 1, 9}, {1, 1, 9, 0}, {1, 2, 9, 9}} {
			unpacked(t, []byte{1, 2, 3}, append(before, number...), nil, errno)
		}
	}
}

// TestLongNumbers: four bytes with bit 7 set are too many, three are not.
func TestLongNumbers(t *testing.T) {
	fails(t, api.ErrKind, [][]byte{
		{0x80, 0x80, 0x80, 0x80},
		{0xff, 0xff, 0xff, 0xff},
		{0x83, 0x80, 0x80, 0x80, 0x00},
		{0x80, 0x80, 0x80, 0x80, 0x01},
		{0xff, 0xff, 0xff, 0xff, 0x80, 0x80, 0x80},
	})
}

// TestCutNumbers: p ends before or within a number.
func TestCutNumbers(t *testing.T) {
	fails(t, api.ErrShort, [][]byte{
		{},
		{0x80},
		{0x83},
		{0xff},
		{0x80, 0x80},
		{0xff, 0xff},
		{0x80, 0x80, 0x80},
		{0xff, 0xff, 0xff},
	})
}

// TestWideNumbers: a number is not encoded in as few bytes as possible.
func TestWideNumbers(t *testing.T) {
	fails(t, api.ErrKind, [][]byte{
		{0x80, 0x00},
		{0x81, 0x00},
		{0x80, 0x80, 0x00},
		{0x81, 0x80, 0x00},
		{0x80, 0x80, 0x80, 0x00},
		{0x81, 0x80, 0x80, 0x00},
		// This comes before a number that is too great.
		{0x84, 0x00},
		{0xff, 0x00},
		{0xff, 0xff, 0x00},
		{0xff, 0xff, 0xff, 0x00},
	})
}

// TestGreatNumbers: a number exceeds that of the remaining bytes.
func TestGreatNumbers(t *testing.T) {
	fails(t, api.ErrSize, [][]byte{
		{4},
		{0x7f},
		{0x80, 0x01},
		{0x83, 0x01},
		{0xff, 0x7f},
		{0x80, 0x80, 0x01},
		{0xff, 0xff, 0x7f},
		{0x80, 0x80, 0x80, 0x01},
		{0xff, 0xff, 0xff, 0x7f},
	})
	base := []byte{1, 2, 3}
	// The remaining ones count, not all.
	unpacked(t, base, []byte{1, 3, 9, 9, 9}, nil, api.ErrSize)
	unpacked(t, base, []byte{0, 1, 9, 3}, nil, api.ErrSize)
	unpacked(t, base, []byte{2, 1, 9, 1}, nil, api.ErrSize)
	// This comes before different bytes that are missing.
	unpacked(t, base, []byte{1, 3}, nil, api.ErrSize)
	unpacked(t, base, []byte{1, 3, 9, 9}, nil, api.ErrSize)
}

// TestCutBytes: p ends within different bytes.
func TestCutBytes(t *testing.T) {
	base := []byte{1, 2, 3}
	unpacked(t, base, []byte{0, 3}, nil, api.ErrShort)
	unpacked(t, base, []byte{0, 3, 9}, nil, api.ErrShort)
	unpacked(t, base, []byte{0, 3, 9, 9}, nil, api.ErrShort)
	unpacked(t, base, []byte{0, 3, 9, 9, 9}, nil, api.ErrShort)
	unpacked(t, base, []byte{0, 3, 9, 9, 9, 0}, []byte{9, 9, 9}, api.OK)
	unpacked(t, base, []byte{2, 1}, nil, api.ErrShort)
}

// TestTail: p continues, which comes before a pack that is another one.
func TestTail(t *testing.T) {
	base := []byte{1, 2, 3}
	for _, p := range [][]byte{
		{3},
		{1, 1, 9, 1},
		{0, 3, 9, 9, 9, 0},
		{1, 1, 2, 1},
		{0, 0, 3},
	} {
		for _, tail := range [][]byte{{0}, {1}, {0x80}, {0, 0}, {0xff, 0xff, 0xff, 0xff}} {
			unpacked(t, base, append(bytes.Clone(p), tail...), nil, api.ErrTail)
		}
	}
}

// TestOtherPacks: the numbers lead to the end, but Pack would choose others.
func TestOtherPacks(t *testing.T) {
	base := []byte{1, 2, 3, 4, 5, 6, 7, 8, 9}
	for _, p := range [][]byte{
		// A run of no different bytes.
		{0, 0, 9},
		{4, 0, 5},
		{4, 1, 0, 0, 0, 4},
		// The bytes of the run are those of the base.
		{4, 1, 5, 4},
		{0, 9, 1, 2, 3, 4, 5, 6, 7, 8, 9, 0},
		// The run begins too early.
		{3, 2, 4, 0, 4},
		// The run ends too late.
		{4, 2, 0, 6, 3},
		{4, 5, 0, 6, 7, 8, 9, 0},
		{0, 6, 0, 2, 3, 4, 5, 0, 3},
		// The run ends too early.
		{0, 1, 0, 3, 1, 0, 4},
		{0, 1, 0, 0, 1, 0, 7},
	} {
		unpacked(t, base, p, nil, api.ErrKind)
	}
}

// TestLimits: the last length whose number has four bytes, and the first one
// whose number Unpack takes for one with too many.
func TestLimits(t *testing.T) {
	if testing.Short() {
		t.Skip("needs some memory")
	}
	base := make([]byte, 1<<28)
	almost := base[:1<<28-1]
	p, e := Pack(almost, almost)
	if !bytes.Equal(p, []byte{0xff, 0xff, 0xff, 0x7f}) || e != api.OK {
		t.Errorf("Pack of 2^28 - 1 bytes: % x, %d", p, e)
	}
	if b, e := Unpack(almost, p); !bytes.Equal(b, almost) || e != api.OK {
		t.Errorf("Unpack of 2^28 - 1 bytes: %d bytes, %d", len(b), e)
	}
	p, e = Pack(base, base)
	if !bytes.Equal(p, []byte{0x80, 0x80, 0x80, 0x80, 1}) || e != api.OK {
		t.Errorf("Pack of 2^28 bytes: % x, %d", p, e)
	}
	if b, e := Unpack(base, p); b != nil || e != api.ErrKind {
		t.Errorf("Unpack of 2^28 bytes: %d bytes, %d", len(b), e)
	}
}

func TestHash(t *testing.T) {
	for _, x := range []struct {
		text string
		want uint64
	}{
		{"", 0xcbf29ce484222325},
		{"\x00", 0xaf63bd4c8601b7df},
		{"a", 0xaf63dc4c8601ec8c},
		{"b", 0xaf63df4c8601f1a5},
		{"foobar", 0x85944171f73967e8},
		{"chongo was here!\n", 0x46810940eff5f915},
	} {
		if h := Hash([]byte(x.text)); h != x.want {
			t.Errorf("Hash of %q = %x, want %x", x.text, h, x.want)
		}
	}
	if h := Hash(nil); h != 0xcbf29ce484222325 {
		t.Errorf("Hash of nothing = %x", h)
	}
}

// TestHashOfAll: against the hash of the library, at every byte and many lengths.
func TestHashOfAll(t *testing.T) {
	check := func(b []byte) {
		t.Helper()
		want := fnv.New64a()
		want.Write(b)
		given := roomy(b)
		if h := Hash(given); h != want.Sum64() {
			t.Errorf("Hash of % x = %x, want %x", b, h, want.Sum64())
		}
		kept(t, "the argument", given, b)
	}
	var b []byte
	for n := range 1000 {
		check(b)
		b = append(b, byte(n*n*7+n))
	}
	for x := range 256 {
		check([]byte{byte(x)})
	}
}
