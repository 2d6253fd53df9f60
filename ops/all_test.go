package ops

import (
	"fmt"
	"slices"
	"strings"
	"testing"
)

// The tests of this file go through all instructions, and hold them against
// the list of their texts rather than against the rules of the document.

// forms returns the texts of the instructions by their first byte, where N is
// a byte and NN a word.
func forms() []string {
	return strings.Split(strings.TrimSpace(strings.ReplaceAll(`
nop;ld bc, NN;ld (bc), a;inc bc;inc b;dec b;ld b, N;rlca;ld (NN), sp;add hl, bc;ld a, (bc);dec bc;inc c;dec c;ld c, N;rrca;
stop N;ld de, NN;ld (de), a;inc de;inc d;dec d;ld d, N;rla;jr N;add hl, de;ld a, (de);dec de;inc e;dec e;ld e, N;rra;
jr nz, N;ld hl, NN;ld (hl+), a;inc hl;inc h;dec h;ld h, N;daa;jr z, N;add hl, hl;ld a, (hl+);dec hl;inc l;dec l;ld l, N;cpl;
jr nc, N;ld sp, NN;ld (hl-), a;inc sp;inc (hl);dec (hl);ld (hl), N;scf;jr c, N;add hl, sp;ld a, (hl-);dec sp;inc a;dec a;ld a, N;ccf;
ld b, b;ld b, c;ld b, d;ld b, e;ld b, h;ld b, l;ld b, (hl);ld b, a;ld c, b;ld c, c;ld c, d;ld c, e;ld c, h;ld c, l;ld c, (hl);ld c, a;
ld d, b;ld d, c;ld d, d;ld d, e;ld d, h;ld d, l;ld d, (hl);ld d, a;ld e, b;ld e, c;ld e, d;ld e, e;ld e, h;ld e, l;ld e, (hl);ld e, a;
ld h, b;ld h, c;ld h, d;ld h, e;ld h, h;ld h, l;ld h, (hl);ld h, a;ld l, b;ld l, c;ld l, d;ld l, e;ld l, h;ld l, l;ld l, (hl);ld l, a;
ld (hl), b;ld (hl), c;ld (hl), d;ld (hl), e;ld (hl), h;ld (hl), l;halt;ld (hl), a;ld a, b;ld a, c;ld a, d;ld a, e;ld a, h;ld a, l;ld a, (hl);ld a, a;
add a, b;add a, c;add a, d;add a, e;add a, h;add a, l;add a, (hl);add a, a;adc a, b;adc a, c;adc a, d;adc a, e;adc a, h;adc a, l;adc a, (hl);adc a, a;
sub a, b;sub a, c;sub a, d;sub a, e;sub a, h;sub a, l;sub a, (hl);sub a, a;sbc a, b;sbc a, c;sbc a, d;sbc a, e;sbc a, h;sbc a, l;sbc a, (hl);sbc a, a;
and a, b;and a, c;and a, d;and a, e;and a, h;and a, l;and a, (hl);and a, a;xor a, b;xor a, c;xor a, d;xor a, e;xor a, h;xor a, l;xor a, (hl);xor a, a;
or a, b;or a, c;or a, d;or a, e;or a, h;or a, l;or a, (hl);or a, a;cp a, b;cp a, c;cp a, d;cp a, e;cp a, h;cp a, l;cp a, (hl);cp a, a;
ret nz;pop bc;jp nz, NN;jp NN;call nz, NN;push bc;add a, N;rst 00;ret z;ret;jp z, NN;prefix;call z, NN;call NN;adc a, N;rst 08;
ret nc;pop de;jp nc, NN;bad;call nc, NN;push de;sub a, N;rst 10;ret c;reti;jp c, NN;bad;call c, NN;bad;sbc a, N;rst 18;
ldh (N), a;pop hl;ldh (c), a;bad;bad;push hl;and a, N;rst 20;add sp, N;jp hl;ld (NN), a;bad;bad;bad;xor a, N;rst 28;
ldh a, (N);pop af;ldh a, (c);di;bad;push af;or a, N;rst 30;ld hl, sp+N;ld sp, hl;ld a, (NN);ei;bad;bad;cp a, N;rst 38`, "\n", "")), ";")
}

// names returns the words of a text.
func names(text string) []string { return strings.Split(text, " ") }

// prefixedForm returns the text of a byte after the prefix.
func prefixedForm(b int) string {
	place := names("b c d e h l (hl) a")[b%8]
	if b < 0x40 {
		return names("rlc rrc rl rr sla sra swap srl")[b/8] + " " + place
	}
	return fmt.Sprintf("%s %d, %s", names("bit res set")[b/0x40-1], b/8%8, place)
}

// wantOf returns the text of an instruction, and its size.
func wantOf(forms []string, a, b, c int) (text string, size int) {
	form := forms[a]
	switch {
	case form == "prefix":
		return prefixedForm(b), 2
	case strings.Contains(form, "NN"):
		return strings.Replace(form, "NN", fmt.Sprintf("%02x%02x", c, b), 1), 3
	case strings.Contains(form, "N"):
		return strings.Replace(form, "N", fmt.Sprintf("%02x", b), 1), 2
	}
	return form, 1
}

// some returns bytes at and beside all powers of two, and a few others.
func some() []int {
	return []int{0, 1, 2, 3, 4, 7, 8, 9, 15, 16, 17, 31, 32, 33, 63, 64, 65, 127, 128, 129, 0x9a, 0xcb, 0xe7, 254, 255}
}

func TestAllTextsAndSizes(t *testing.T) {
	table, forms := New(), forms()
	if len(forms) != 256 {
		t.Fatalf("%d forms", len(forms))
	}
	for a := range 256 {
		for b := range 256 {
			for _, c := range some() {
				o := table.Decode(byte(a), byte(b), byte(c))
				text, size := wantOf(forms, a, b, c)
				if got := Text(o); got != text || o.Size != size {
					t.Errorf("%02x %02x %02x: %q, size %d, want %q, size %d", a, b, c, got, o.Size, text, size)
				}
			}
		}
	}
}

// all returns the instructions of all bytes, each once.
func all() (l []Op) {
	table := New()
	for a := range 256 {
		switch table.Decode(byte(a), 0, 0).Size {
		case 1:
			l = append(l, table.Decode(byte(a), 0, 0))
		case 2:
			for b := range 256 {
				l = append(l, table.Decode(byte(a), byte(b), 0))
			}
		case 3:
			for n := range 65536 {
				l = append(l, table.Decode(byte(a), byte(n), byte(n>>8)))
			}
		}
	}
	return l
}

// TestAllTextsDiffer: no two instructions have the same text, but for Bad.
func TestAllTextsDiffer(t *testing.T) {
	var texts []string
	for _, o := range all() {
		text := Text(o)
		if strings.Contains(text, "?") {
			t.Fatalf("Text(%v) = %q", o, text)
		}
		if o.Kind != Bad {
			texts = append(texts, text)
		} else if text != "bad" {
			t.Fatalf("Text(%v) = %q", o, text)
		}
	}
	slices.Sort(texts)
	for i := 1; i < len(texts); i++ {
		if texts[i] == texts[i-1] {
			t.Fatalf("%q is the text of two instructions", texts[i])
		}
	}
}

// TestAllOpsDiffer: bytes that differ within the size of an instruction are
// different instructions, but for the bad ones.
func TestAllOpsDiffer(t *testing.T) {
	seen := map[Op]int{}
	bad := 0
	for _, o := range all() {
		seen[o]++
		if o.Kind == Bad {
			bad++
		} else if seen[o] > 1 {
			t.Fatalf("%v is decoded twice", o)
		}
	}
	if bad != len(badBytes) || seen[Op{Kind: Bad, Size: 1}] != bad {
		t.Errorf("%d bytes are bad, want %d", bad, len(badBytes))
	}
}

// TestAllBytesBeyond: bytes beyond the size of an instruction change nothing.
func TestAllBytesBeyond(t *testing.T) {
	table := New()
	for a := range 256 {
		for _, b := range some() {
			want := table.Decode(byte(a), byte(b), 0)
			for _, c := range some() {
				o := table.Decode(byte(a), byte(b), byte(c))
				if want.Size < 3 && o != want {
					t.Errorf("Decode(%02x, %02x, %02x) = %v, but %v with 00", a, b, c, o, want)
				}
			}
			first := table.Decode(byte(a), 0, 0)
			if first.Size == 1 && want != first {
				t.Errorf("Decode(%02x, %02x, 00) = %v, but %v with 00", a, b, want, first)
			}
		}
	}
}

// TestAllAgain: what a table was asked before changes nothing, and tables do
// not depend on each other.
func TestAllAgain(t *testing.T) {
	used := New()
	first := []Op{}
	for a := range 256 {
		first = append(first, used.Decode(byte(a), 0x9a, 0x78))
	}
	for a := 255; a >= 0; a-- {
		if o := used.Decode(byte(a), 0x9a, 0x78); o != first[a] {
			t.Errorf("Decode(%02x, 9a, 78) = %v, then %v", a, first[a], o)
		}
		if o := New().Decode(byte(a), 0x9a, 0x78); o != first[a] {
			t.Errorf("Decode(%02x, 9a, 78) = %v, and %v of a new table", a, first[a], o)
		}
	}
}
