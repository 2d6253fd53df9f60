package machine

import (
	"bytes"
	"math/bits"
	"reflect"
	"slices"
	"testing"

	"retrograde/api"
	"retrograde/clock"
	"retrograde/joypad"
	"retrograde/mbc"
)

// part is some bytes of the encoded state: a number, the lowest byte first, and
// which ones it can be, all if not said.
type part struct {
	name  string
	bytes int
	valid func(x uint64) bool
}

// upTo is all numbers to the given one.
func upTo(most uint64) func(x uint64) bool {
	return func(x uint64) bool { return x <= most }
}

// only is all numbers that have only bits of a mask.
func only(mask uint64) func(x uint64) bool {
	return func(x uint64) bool { return x&^mask == 0 }
}

// parts is the encoded state, before the memories.
func parts() []part {
	list := []part{
		{"A", 1, nil}, {"F", 1, only(0xf0)}, {"BC", 2, nil}, {"DE", 2, nil}, {"HL", 2, nil}, {"SP", 2, nil}, {"PC", 2, nil},
		{"IME", 1, upTo(1)}, {"Soon", 1, upTo(1)}, {"Halt", 1, upTo(1)}, {"Stop", 1, upTo(1)},
		{"On", 1, upTo(1)}, {"Mode", 1, upTo(1)}, {"Low", 2, upTo(511)}, {"High", 1, upTo(15)}, {"Last", 1, nil},
		{"S", 1, upTo(63)}, {"M", 1, upTo(63)}, {"H", 1, upTo(31)}, {"Day", 2, upTo(511)}, {"Sub", 3, upTo(clock.Second - 1)},
		{"clock Halt", 1, upTo(1)}, {"Carry", 1, upTo(1)},
		{"Held 0", 1, upTo(63)}, {"Held 1", 1, upTo(63)}, {"Held 2", 1, upTo(31)}, {"Held 3", 1, nil}, {"Held 4", 1, only(0xc1)},
		{"Count", 2, nil}, {"Tima", 1, nil}, {"Tma", 1, nil}, {"Tac", 1, upTo(7)}, {"Over", 1, upTo(1)},
		{"Select", 1, only(0x30)}, {"Down", 1, nil},
		{"Data", 1, nil}, {"Control", 1, only(0x81)}, {"port Last", 1, nil}, {"Bits", 1, upTo(8)}, {"port Count", 1, upTo(127)}, {"Sent", 2, nil},
		{"Page", 1, nil}, {"Left", 1, upTo(160)},
	}
	for range 48 {
		list = append(list, part{"sound register", 1, nil})
	}
	list = append(list, part{"sound On", 1, upTo(1)}, part{"Div", 2, upTo(2047)}, part{"Step", 1, upTo(7)})
	for _, length := range []part{{"Length", 1, upTo(64)}, {"Length", 1, upTo(64)}, {"Length", 2, upTo(256)}, {"Length", 1, upTo(64)}} {
		list = append(list, part{"voice On", 1, upTo(1)}, length, part{"Level", 1, upTo(15)}, part{"Wait", 1, upTo(7)})
	}
	return append(list,
		part{"Pitch", 2, upTo(2047)}, part{"Slide", 1, upTo(8)}, part{"Slides", 1, upTo(1)},
		part{"flags", 1, upTo(31)}, part{"enabled", 1, nil}, part{"steps", 8, nil}, part{"cycles", 8, nil},
	)
}

// numberBytes is how many bytes the parts have.
func numberBytes() int {
	n := 0
	for _, p := range parts() {
		n += p.bytes
	}
	return n
}

// unitBytes is how many bytes the picture unit has.
const unitBytes = 0x2000 + 160 + 11 + 5 + 144*160

// isDecode checks the result of Decode, and that an error changes nothing.
func isDecode(t *testing.T, m *Machine, b []byte, want api.Errno) {
	t.Helper()
	before, passed := m.Encode(), slices.Clone(b)
	if got := m.Decode(b); got != want {
		t.Errorf("Decode of %d bytes = %d, want %d", len(b), got, want)
	}
	if want == api.OK {
		before = passed
	}
	if !bytes.Equal(m.Encode(), before) {
		t.Errorf("Decode, which returns %d, leads to another state", want)
	}
	if !bytes.Equal(b, passed) {
		t.Error("Decode changed its argument")
	}
}

// numbers returns a function that returns other numbers in each call, the same
// in each run.
func numbers(start uint64) func(below int) int {
	x := start
	return func(below int) int {
		x = x*6364136223846793005 + 1442695040888963407
		return int(x>>33) % below
	}
}

// anyState returns an encoded state of any kind, for as much RAM.
func anyState(number func(below int) int, ram int) []byte {
	var b []byte
	for _, p := range parts() {
		b = append(b, anyPart(number, p)...)
	}
	for range ram + 0x2000 + 0x7f {
		b = append(b, byte(number(256)))
	}
	unit := make([]byte, unitBytes)
	for place := range unit {
		unit[place] = byte(number(256))
		if place >= unitBytes-144*160 {
			unit[place] &= 3
		}
	}
	unit[0x20a1] &= 0x78
	unit[0x20a4] %= 154
	unit[0x20ab] %= 114
	unit[0x20af] &= 1
	return append(b, unit...)
}

// anyPart returns a part with a valid number, often a small one or a great one.
func anyPart(number func(below int) int, p part) []byte {
	for {
		var x uint64
		for range p.bytes {
			x = x<<8 | uint64(number(256))
		}
		switch number(6) {
		case 0:
			x = uint64(number(2))
		case 1:
			x = ^uint64(number(2))
		case 2, 3:
			x &= 0x7f
		}
		if p.bytes < 8 {
			x %= 1 << (8 * p.bytes)
		}
		if p.valid == nil || p.valid(x) {
			return little(x, p.bytes)
		}
	}
}

// little returns the bytes of a number, the lowest one first.
func little(x uint64, n int) []byte {
	var b []byte
	for range n {
		b = append(b, byte(x))
		x >>= 8
	}
	return b
}

// TestSize: how many bytes a state has, and that the memories come last.
func TestSize(t *testing.T) {
	for _, mapper := range mappers() {
		for ram := range 6 {
			m := build(t, cart(mapper, 0, byte(ram)), nil)
			b := m.Encode()
			if want := numberBytes() + m.Header().Ram + 0x2000 + 0x7f + unitBytes; len(b) != want {
				t.Errorf("%d bytes, want %d", len(b), want)
			}
		}
	}
	m := with(t, wide)
	m.ram[0], m.ram[0x7fff], m.work[0], m.work[0x1fff], m.high[0], m.high[0x7e] = 1, 2, 3, 4, 5, 6
	m.video.Write(0x8000, 7)
	m.video.Write(0xff4b, 8)
	b := m.Encode()
	at := numberBytes()
	for n, place := range []int{at, at + 0x7fff, at + 0x8000, at + 0x9fff, at + 0xa000, at + 0xa07e, at + 0xa07f, at + 0xa07f + 0x20aa} {
		if b[place] != byte(n+1) {
			t.Errorf("byte %d is %d, want %d", place, b[place], n+1)
		}
	}
}

// TestEncodeInitial: the encoded state before the first step.
func TestEncodeInitial(t *testing.T) {
	m := with(t, plain)
	want := make([]byte, len(m.Encode()))
	copy(want, []byte{1, 0xb0, 0, 0x13, 0, 0xd8, 1, 0x4d, 0xfe, 0xff, 0, 1, 0, 0, 0, 0, 1, 0, 1, 0, 0, 0xff})
	if !bytes.Equal(m.Encode(), want) {
		t.Errorf("Encode = %v", m.Encode()[:numberBytes()])
	}
}

// changes are one for each value of a state that can change.
func changes() []func(m *Machine) {
	list := []func(m *Machine){
		func(m *Machine) { m.processor.R.A++ },
		func(m *Machine) { m.processor.R.F ^= 0x40 },
		func(m *Machine) { m.processor.R.B++ },
		func(m *Machine) { m.processor.R.C++ },
		func(m *Machine) { m.processor.R.D++ },
		func(m *Machine) { m.processor.R.E++ },
		func(m *Machine) { m.processor.R.H++ },
		func(m *Machine) { m.processor.R.L++ },
		func(m *Machine) { m.processor.R.SP += 0x100 },
		func(m *Machine) { m.processor.R.PC += 0x100 },
		func(m *Machine) { m.processor.IME = !m.processor.IME },
		func(m *Machine) { m.processor.Soon = !m.processor.Soon },
		func(m *Machine) { m.processor.Halt = !m.processor.Halt },
		func(m *Machine) { m.processor.Stop = !m.processor.Stop },
		func(m *Machine) { m.banks.On = !m.banks.On },
		func(m *Machine) { m.banks.Mode = !m.banks.Mode },
		func(m *Machine) { m.banks.Low ^= 0x100 },
		func(m *Machine) { m.banks.High ^= 8 },
		func(m *Machine) { m.banks.Last++ },
		func(m *Machine) { m.clock.S ^= 0x20 },
		func(m *Machine) { m.clock.M ^= 0x20 },
		func(m *Machine) { m.clock.H ^= 0x10 },
		func(m *Machine) { m.clock.Day ^= 0x100 },
		func(m *Machine) { m.clock.Sub ^= 0x80000 },
		func(m *Machine) { m.clock.Halt = !m.clock.Halt },
		func(m *Machine) { m.clock.Carry = !m.clock.Carry },
		func(m *Machine) { m.timer.Count ^= 0x8000 },
		func(m *Machine) { m.timer.Tima++ },
		func(m *Machine) { m.timer.Tma++ },
		func(m *Machine) { m.timer.Tac ^= 4 },
		func(m *Machine) { m.timer.Over = !m.timer.Over },
		func(m *Machine) { m.pad.Select ^= 0x20 },
		func(m *Machine) { m.pad.Down++ },
		func(m *Machine) { m.port.Data++ },
		func(m *Machine) { m.port.Control ^= 0x80 },
		func(m *Machine) { m.port.Last++ },
		func(m *Machine) { m.port.Bits ^= 1 },
		func(m *Machine) { m.port.Count ^= 0x40 },
		func(m *Machine) { m.port.Sent ^= 0x8000 },
		func(m *Machine) { m.copier.Page++ },
		func(m *Machine) { m.copier.Left ^= 1 },
		func(m *Machine) { m.board.On = !m.board.On },
		func(m *Machine) { m.board.Div ^= 0x400 },
		func(m *Machine) { m.board.Step ^= 4 },
		func(m *Machine) { m.board.Pitch ^= 0x400 },
		func(m *Machine) { m.board.Slide ^= 1 },
		func(m *Machine) { m.board.Slides = !m.board.Slides },
		func(m *Machine) { m.flags ^= 0x10 },
		func(m *Machine) { m.enabled ^= 0x80 },
		func(m *Machine) { m.steps ^= 1 << 63 },
		func(m *Machine) { m.cycles ^= 1 << 63 },
	}
	for n := range 5 {
		list = append(list, func(m *Machine) { m.clock.Held[n] ^= 1 })
	}
	for n := range 48 {
		list = append(list, func(m *Machine) { m.board.Regs[n]++ })
	}
	for n := range 4 {
		list = append(list,
			func(m *Machine) { m.board.Voices[n].On = !m.board.Voices[n].On },
			func(m *Machine) { m.board.Voices[n].Length ^= 1 },
			func(m *Machine) { m.board.Voices[n].Level ^= 8 },
			func(m *Machine) { m.board.Voices[n].Wait ^= 4 },
		)
	}
	return list
}

// memoryChanges are some for each memory.
func memoryChanges() []func(m *Machine) {
	var list []func(m *Machine)
	for n := 0; n < 0x8000; n += 0xfff {
		list = append(list, func(m *Machine) { m.ram[n]++ })
	}
	for n := 0; n < 0x2000; n += 0x3ff {
		list = append(list, func(m *Machine) { m.work[n]++ })
	}
	for n := range 0x7f {
		list = append(list, func(m *Machine) { m.high[n]++ })
	}
	return append(list,
		func(m *Machine) { m.video.Write(0x9fff, 1) },
		func(m *Machine) { m.video.Write(0xff40, 0x80) },
		func(m *Machine) { m.video.Write(0xff40, 0x80); m.video.Tick() },
		func(m *Machine) { m.video.Sprite(159, 1) },
	)
}

// leaves counts the values in a type that can change, but for memories.
func leaves(typ reflect.Type) int {
	switch typ.Kind() {
	case reflect.Struct:
		n := 0
		for i := range typ.NumField() {
			n += leaves(typ.Field(i).Type)
		}
		return n
	case reflect.Array:
		return typ.Len() * leaves(typ.Elem())
	case reflect.Slice:
		return 0
	}
	return 1
}

// TestEveryValueCounts: no two states that differ in one value have the same
// bytes, and each is taken over by another machine.
func TestEveryValueCounts(t *testing.T) {
	// Kind, Banks and Ram of the map do not change.
	if n := leaves(reflect.TypeFor[state]()) - 0x2000 - 0x7f - 3; n != len(changes()) {
		t.Errorf("%d values of a state, want %d", n, len(changes()))
	}
	base := with(t, wide).Encode()
	seen := map[string]int{string(base): -1}
	for n, change := range slices.Concat(changes(), memoryChanges()) {
		m := with(t, wide)
		change(m)
		b := m.Encode()
		if before, found := seen[string(b)]; found {
			t.Errorf("change %d has the bytes of change %d", n, before)
		}
		seen[string(b)] = n
		other := with(t, wide)
		isDecode(t, other, b, api.OK)
		if !reflect.DeepEqual(other.state, m.state) || !bytes.Equal(other.Video().Encode(), m.Video().Encode()) {
			t.Errorf("change %d: other states", n)
		}
	}
}

// TestSameState: equal states have the same bytes, however they were reached.
func TestSameState(t *testing.T) {
	m, other := with(t, clocked), with(t, clocked)
	for n := range 50 {
		if !bytes.Equal(m.Encode(), other.Encode()) {
			t.Fatalf("other bytes after %d steps", n)
		}
		m.Step()
		if n%7 == 0 {
			other.Encode()
			isDecode(t, other, other.Encode(), api.OK)
		}
		other.Step()
	}
	// Another way to the same state: what was written is written back.
	m, other = running(t, 0x70, 0x70, 0x71), running(t, 0x00, 0x00, 0x71)
	for range 3 {
		m.Step()
		other.Step()
	}
	if bytes.Equal(m.Encode(), other.Encode()) {
		t.Error("other states with the same bytes")
	}
	copy(m.work[:3], other.work[:3])
	m.cycles, m.timer = other.cycles, other.timer
	if !bytes.Equal(m.Encode(), other.Encode()) {
		t.Error("one state with other bytes")
	}
}

// TestDecodeSize: every length but one is wrong, whatever the bytes are.
func TestDecodeSize(t *testing.T) {
	m := running(t, 0x3e, 0x12)
	m.Step()
	whole := m.Encode()
	for n := range len(whole) {
		if n < 300 || n > len(whole)-20 || n%1009 == 0 {
			isDecode(t, m, whole[:n], api.ErrSize)
			isDecode(t, m, whole[:n:n], api.ErrSize)
		}
	}
	isDecode(t, m, nil, api.ErrSize)
	isDecode(t, m, append(slices.Clone(whole), 0), api.ErrSize)
	isDecode(t, m, bytes.Repeat([]byte{0xff}, len(whole)+1), api.ErrSize)
	isDecode(t, m, bytes.Repeat([]byte{0xff}, len(whole)-1), api.ErrSize)
	isDecode(t, m, bytes.Repeat([]byte{0xff}, len(whole)), api.ErrKind)
	// The size depends on the RAM of the cartridge.
	isDecode(t, build(t, cart(plain, 0, 2), nil), whole, api.ErrSize)
	isDecode(t, build(t, cart(plain, 0, 3), nil), whole, api.OK)
	isDecode(t, m, whole, api.OK)
}

// TestDecodeNumbers: which numbers each part can be.
func TestDecodeNumbers(t *testing.T) {
	number := numbers(1)
	m := build(t, cart(clocked, 0, 0), nil)
	base := anyState(number, 0)
	isDecode(t, m, base, api.OK)
	at := 0
	for _, p := range parts() {
		for _, x := range samples(p.bytes) {
			b := slices.Clone(base)
			copy(b[at:], little(x, p.bytes))
			want := api.OK
			if p.valid != nil && !p.valid(x) {
				want = api.ErrKind
			}
			if got := m.Decode(b); got != want {
				t.Errorf("%s %x: Decode = %d, want %d", p.name, x, got, want)
			}
			if want != api.OK {
				b = base
			}
			if !bytes.Equal(m.Encode(), b) {
				t.Fatalf("%s %x: another state", p.name, x)
			}
			if want == api.OK {
				m.Decode(base)
			}
		}
		at += p.bytes
	}
}

// samples returns all numbers of a byte, and for more bytes those near powers
// of 2.
func samples(n int) []uint64 {
	var list []uint64
	if n == 1 {
		for x := range uint64(256) {
			list = append(list, x)
		}
		return list
	}
	for bit := range 8 * n {
		for _, x := range []uint64{1<<bit - 1, 1 << bit, 1<<bit + 1, ^uint64(1 << bit)} {
			if n == 8 || bits.Len64(x) <= 8*n {
				list = append(list, x)
			}
		}
	}
	return append(list, 1<<(8*n)-1)
}

// TestDecodeMemories: all bytes of the memories can be anything, in the unit
// those that layer 15 takes over.
func TestDecodeMemories(t *testing.T) {
	number := numbers(2)
	m := build(t, cart(contained, 0, 0), nil)
	base := anyState(number, 0x200)
	at := numberBytes()
	for place := at; place < at+0x200+0x2000+0x7f+0x20a0; place += 61 {
		b := slices.Clone(base)
		b[place] = ^b[place]
		isDecode(t, m, b, api.OK)
	}
	unit := at + 0x200 + 0x2000 + 0x7f
	isDecode(t, m, base, api.OK)
	for place, x := range map[int]byte{unit + 0x20a1: 0x80, unit + 0x20a4: 154, unit + 0x20ab: 114, unit + 0x20af: 2, unit + unitBytes - 1: 4} {
		b := slices.Clone(base)
		b[place] = x
		isDecode(t, m, b, api.ErrKind)
		// Nothing of the rest is taken over.
		b[0]++
		b[at]++
		isDecode(t, m, b, api.ErrKind)
	}
}

// TestDecodeWrongFirst: a state that is wrong in a number leaves the unit, too,
// as it is.
func TestDecodeWrongFirst(t *testing.T) {
	number := numbers(3)
	m := with(t, plain)
	b := anyState(number, 0x8000)
	b[1] = 1
	isDecode(t, m, b, api.ErrKind)
	b[1] = 0
	isDecode(t, m, b, api.OK)
}

// TestDecodeAll: states of any kind are taken over as they are, and lead to
// other ones that can be taken over, whatever the cartridge is.
func TestDecodeAll(t *testing.T) {
	number := numbers(4)
	for round := range 120 {
		mapper := mappers()[round%6]
		m := build(t, cart(mapper, byte(round%3), byte(round%4)), joypad.Plan{{At: uint64(round), Down: byte(round)}})
		other := build(t, cart(mapper, byte(round%3), byte(round%4)), m.plan)
		b := anyState(number, m.Header().Ram)
		isDecode(t, m, b, api.OK)
		for range 60 {
			m.Step()
		}
		isDecode(t, other, m.Encode(), api.OK)
		if !reflect.DeepEqual(other.state, m.state) {
			t.Fatal("other states")
		}
	}
}

// TestLimits: a machine whose numbers are all at their limits goes on within
// them.
func TestLimits(t *testing.T) {
	for _, mapper := range mappers() {
		m := with(t, mapper)
		var b []byte
		for _, p := range parts() {
			x := uint64(1)<<(8*p.bytes) - 1
			if p.bytes == 8 {
				x = ^uint64(0)
			}
			for p.valid != nil && !p.valid(x) {
				x--
			}
			b = append(b, little(x, p.bytes)...)
		}
		b = append(b, m.Encode()[len(b):]...)
		b[14], b[13] = 0, 0 // neither stopped nor halted
		isDecode(t, m, b, api.OK)
		for range 5000 {
			m.Step()
			idle(m, 1)
		}
		isDecode(t, m, m.Encode(), api.OK)
	}
}

// TestBanksStay: what the cartridge determines is not part of the state.
func TestBanksStay(t *testing.T) {
	first, second := build(t, cart(banked, 1, 3), nil), build(t, cart(wide, 4, 3), nil)
	isDecode(t, second, first.Encode(), api.OK)
	if second.banks != (mbc.Map{Kind: 5, Banks: 32, Ram: 0x8000, Low: 1, Last: 0xff}) {
		t.Errorf("map %+v", second.banks)
	}
	if second.Header().Kind != 5 || first.banks.Kind != 1 {
		t.Error("another cartridge")
	}
}

// TestSharesNothing: neither the result of Encode nor the argument of Decode is
// part of the machine.
func TestSharesNothing(t *testing.T) {
	number := numbers(5)
	m, other := with(t, wide), with(t, wide)
	b := anyState(number, 0x8000)
	want := slices.Clone(b)
	isDecode(t, m, b, api.OK)
	isDecode(t, other, b, api.OK)
	clear(b)
	first, second := m.Encode(), m.Encode()
	clear(first)
	if !bytes.Equal(second, want) || !bytes.Equal(m.Encode(), want) {
		t.Error("a change of an argument or a result changes the machine")
	}
	for addr := range 0x10000 {
		(&bus{Machine: m}).write(uint16(addr), byte(addr))
	}
	idle(m, 1000)
	if !bytes.Equal(other.Encode(), want) {
		t.Error("two machines share memory")
	}
	long := append(slices.Clone(want), 0xff, 0xff)
	isDecode(t, m, long[:len(want)], api.OK)
	if long[len(want)] != 0xff || long[len(want)+1] != 0xff {
		t.Error("Decode wrote beyond the length")
	}
	// The unit that Video returned is still that of the machine.
	unit := m.Video()
	isDecode(t, m, other.Encode(), api.OK)
	if unit != m.Video() {
		t.Error("another unit")
	}
}

// TestContinues: after Decode, the machine goes on as from that state, whatever
// it did before.
func TestContinues(t *testing.T) {
	number := numbers(6)
	for round := range 40 {
		rom := cart(mappers()[round%6], 1, 2)
		plan := joypad.Plan{{At: 20, Down: 0x11}, {At: 90, Down: 0x82}, {At: 120, Down: 0}}
		m, other := build(t, rom, plan), build(t, rom, plan)
		start := anyState(number, m.Header().Ram)
		zeroSteps(start)
		isDecode(t, m, start, api.OK)
		saved := [][]byte{m.Encode()}
		for range 150 {
			m.Step()
			saved = append(saved, m.Encode())
		}
		isDecode(t, other, anyState(number, m.Header().Ram), api.OK)
		for range 30 {
			other.Step()
		}
		for _, from := range []int{100, 0, 60, 149} {
			isDecode(t, other, saved[from], api.OK)
			for n := from; n < 150; n++ {
				other.Step()
				if !bytes.Equal(other.Encode(), saved[n+1]) {
					t.Fatalf("from %d on: other states after %d steps", from, n+1)
				}
			}
		}
	}
}

// zeroSteps sets the number of steps of an encoded state to 0, and lets its
// processor run.
func zeroSteps(b []byte) {
	clear(b[13:16])
	clear(b[numberBytes()-16 : numberBytes()-8])
}
