package cpu

import (
	"strconv"
	"strings"

	"retrograde/ops"
)

// model is a second processor, for comparison: it works from the texts of
// instructions, and computes bit by bit what the first one leaves to layer 1.
type model struct {
	s   State
	bus *recorder
}

// word returns the 16 bits of two bytes.
func word(high, low byte) int { return int(high)*256 + int(low) }

// step executes a step.
func (m *model) step() Did {
	at := m.s.R.PC
	if m.s.Stop {
		m.bus.Idle()
		m.s.Stop = m.bus.Pending()/16%2 == 0
		return Did{What: Slept, At: at}
	}
	pending := m.bus.Pending()
	switch {
	case m.s.Halt && pending == 0:
		m.bus.Idle()
		return Did{What: Slept, At: at}
	case m.s.IME && pending != 0:
		n := 0
		for pending>>n%2 == 0 {
			n++
		}
		m.dispatch(n)
		return Did{What: Called, N: n, At: at}
	}
	m.s.Halt = false
	soon := m.s.Soon
	o := m.decode()
	taken := m.execute(ops.Text(o), o.Size)
	if soon && o.Kind != ops.Di {
		m.s.IME = true
	}
	if soon && o.Kind != ops.Ei {
		m.s.Soon = false
	}
	return Did{What: Ran, At: at, Op: o, Taken: taken}
}

// dispatch calls the routine of interrupt n.
func (m *model) dispatch(n int) {
	m.bus.Idle()
	m.bus.Idle()
	m.pushWord(int(m.s.R.PC))
	m.bus.Ack(n)
	m.bus.Idle()
	m.s.R.PC = []uint16{0x40, 0x48, 0x50, 0x58, 0x60}[n]
	m.s.IME, m.s.Soon, m.s.Halt = false, false, false
}

// decode fetches the instruction at the PC, whose size is told by its text.
func (m *model) decode() ops.Op {
	first := m.bus.Fetch(m.s.R.PC)
	o := table.Decode(first, 0, 0)
	var rest [2]byte
	for i := range o.Size - 1 {
		rest[i] = m.bus.Fetch(m.s.R.PC + 1 + uint16(i))
	}
	m.s.R.PC += uint16(o.Size)
	return table.Decode(first, rest[0], rest[1])
}

// execute performs the instruction with a text, and reports whether its
// condition held.
func (m *model) execute(text string, size int) bool {
	name, rest, _ := strings.Cut(text, " ")
	var operands []string
	if rest != "" {
		operands = strings.Split(rest, ", ")
	}
	switch name {
	case "jr", "jp", "call", "ret":
		return m.jump(name, operands)
	case "reti":
		m.jump("ret", nil)
		m.s.IME = true
	case "rst":
		m.jump("call", operands)
	case "push":
		m.bus.Idle()
		m.pushWord(m.wordOf(operands[0]))
	case "pop":
		m.setWord(operands[0], m.popWord())
	case "stop":
		m.s.Stop = true
	case "halt":
		m.s.Halt = true
	case "di":
		m.s.IME = false
	case "ei":
		m.s.Soon = true
	case "bad":
		m.s.R.PC -= uint16(size)
	case "nop":
	case "ld":
		m.load(operands[0], operands[1])
	case "ldh":
		m.load(whole(operands[0]), whole(operands[1]))
	case "inc", "dec":
		m.count(name, operands[0])
	case "add", "adc", "sub", "sbc", "and", "xor", "or", "cp":
		m.sum(name, operands[0], operands[1])
	case "bit", "res", "set":
		m.bit(name, operands[0], operands[1])
	default:
		m.turn(name, operands)
	}
	return true
}

// jump performs a jump, call or return, and reports whether its condition held.
func (m *model) jump(name string, operands []string) bool {
	flags, conditional, holds := m.s.R.F, true, true
	condition := ""
	if len(operands) > 0 {
		condition = operands[0]
	}
	switch condition {
	case "nz":
		holds = flags < 0x80
	case "z":
		holds = flags >= 0x80
	case "nc":
		holds = flags/16%2 == 0
	case "c":
		holds = flags/16%2 == 1
	default:
		conditional = false
	}
	if name == "ret" && conditional {
		m.bus.Idle()
	}
	if !holds {
		return false
	}
	target := ""
	if len(operands) > 0 {
		target = operands[len(operands)-1]
	}
	m.transfer(name, target)
	return true
}

// transfer sets the PC.
func (m *model) transfer(name, target string) {
	switch {
	case name == "ret":
		m.s.R.PC = uint16(m.popWord())
		m.bus.Idle()
	case name == "jr":
		m.bus.Idle()
		m.s.R.PC = uint16(int(m.s.R.PC) + signed(number(target)))
	case name == "call":
		m.bus.Idle()
		m.pushWord(int(m.s.R.PC))
		m.s.R.PC = uint16(number(target))
	case target == "hl":
		m.s.R.PC = uint16(m.wordOf("hl"))
	default:
		m.bus.Idle()
		m.s.R.PC = uint16(number(target))
	}
}

// number returns what hexadecimal digits mean.
func number(text string) int {
	n, err := strconv.ParseUint(text, 16, 16)
	if err != nil {
		panic(err)
	}
	return int(n)
}

// signed returns a byte as a number from -128 to 127.
func signed(n int) int {
	if n > 127 {
		return n - 256
	}
	return n
}

func (m *model) pushWord(x int) {
	m.s.R.SP -= 2
	m.bus.Write(m.s.R.SP+1, byte(x/256))
	m.bus.Write(m.s.R.SP, byte(x%256))
}

func (m *model) popWord() int {
	low := m.bus.Read(m.s.R.SP)
	high := m.bus.Read(m.s.R.SP + 1)
	m.s.R.SP += 2
	return word(high, low)
}

// isWord reports whether an operand is a register pair.
func isWord(name string) bool { return len(name) == 2 && strings.Contains("bc de hl sp af", name) }

// wordOf returns a register pair.
func (m *model) wordOf(name string) int {
	r := m.s.R
	switch name {
	case "bc":
		return word(r.B, r.C)
	case "de":
		return word(r.D, r.E)
	case "hl":
		return word(r.H, r.L)
	case "sp":
		return int(r.SP)
	}
	return word(r.A, r.F) / 16 * 16
}

// setWord sets a register pair.
func (m *model) setWord(name string, x int) {
	r, high, low := &m.s.R, byte(x>>8), byte(x)
	switch name {
	case "bc":
		r.B, r.C = high, low
	case "de":
		r.D, r.E = high, low
	case "hl":
		r.H, r.L = high, low
	case "sp":
		r.SP = uint16(x)
	case "af":
		r.A, r.F = high, low/16*16
	}
}

// register returns a byte register, or nil if an operand is none.
func (m *model) register(name string) *byte {
	r := &m.s.R
	return map[string]*byte{"a": &r.A, "b": &r.B, "c": &r.C, "d": &r.D, "e": &r.E, "h": &r.H, "l": &r.L}[name]
}

// addressOf returns the address in an operand that is in parentheses, and
// moves HL if the operand says so.
func (m *model) addressOf(operand string) uint16 {
	inner := strings.Trim(operand, "()")
	switch {
	case inner == "c":
		return 0xff00 + uint16(m.s.R.C)
	case isWord(inner):
		return uint16(m.wordOf(inner))
	case inner == "hl+" || inner == "hl-":
		at := m.wordOf("hl")
		m.setWord("hl", at+map[string]int{"hl+": 1, "hl-": -1}[inner])
		return uint16(at)
	}
	return uint16(number(inner))
}

// whole returns an operand of ldh with the whole address in place of its lower
// byte, which may look like a pair.
func whole(operand string) string {
	if len(operand) == len("(80)") {
		return "(ff" + operand[1:]
	}
	return operand
}

// byteOf returns a byte operand.
func (m *model) byteOf(operand string) int {
	if p := m.register(operand); p != nil {
		return int(*p)
	}
	if operand[0] == '(' {
		return int(m.bus.Read(m.addressOf(operand)))
	}
	return number(operand)
}

// setByte sets a byte operand.
func (m *model) setByte(operand string, x int) {
	if p := m.register(operand); p != nil {
		*p = byte(x)
		return
	}
	m.bus.Write(m.addressOf(operand), byte(x))
}

// setFlags sets Z, N, H and C by the digits of a text, or keeps a flag that is
// written as a dash.
func (m *model) setFlags(z, n, h, c string) {
	f := 0
	for i, digit := range []string{c, h, n, z} {
		bit := 16 << i
		if digit == "1" || digit == "-" && int(m.s.R.F)/bit%2 == 1 {
			f += bit
		}
	}
	m.s.R.F = byte(f)
}

// digit returns a flag as setFlags takes it.
func digit(set bool) string { return map[bool]string{true: "1", false: "0"}[set] }

// load performs what is written as ld and ldh.
func (m *model) load(to, from string) {
	switch {
	case to == "sp" && from == "hl":
		m.bus.Idle()
		m.s.R.SP = uint16(m.wordOf("hl"))
	case strings.HasPrefix(from, "sp+"):
		m.bus.Idle()
		m.setWord("hl", m.shift(number(from[3:])))
	case from == "sp":
		at := m.addressOf(to)
		m.bus.Write(at, byte(m.s.R.SP%256))
		m.bus.Write(at+1, byte(m.s.R.SP/256))
	case isWord(to):
		m.setWord(to, number(from))
	default:
		m.setByte(to, m.byteOf(from))
	}
}

// shift returns SP plus a signed byte, and sets the flags.
func (m *model) shift(e int) int {
	s := int(m.s.R.SP)
	m.setFlags("0", "0", digit(s%16+e%16 > 15), digit(s%256+e > 255))
	return s + signed(e)
}

// count performs inc and dec.
func (m *model) count(name, operand string) {
	by := map[string]int{"inc": 1, "dec": -1}[name]
	if isWord(operand) {
		m.bus.Idle()
		m.setWord(operand, m.wordOf(operand)+by)
		return
	}
	x := m.byteOf(operand)
	r := (x + by + 256) % 256
	m.setByte(operand, r)
	crossed := x/16 != r/16
	m.setFlags(digit(r == 0), digit(by < 0), digit(crossed), "-")
}

// sum performs the ALU operations, and add to HL and to SP.
func (m *model) sum(name, to, from string) {
	switch to {
	case "hl":
		m.bus.Idle()
		x, y := m.wordOf("hl"), m.wordOf(from)
		m.setWord("hl", x+y)
		m.setFlags("-", "0", digit(x%4096+y%4096 > 4095), digit(x+y > 65535))
		return
	case "sp":
		m.bus.Idle()
		m.bus.Idle()
		m.s.R.SP = uint16(m.shift(number(from)))
		return
	}
	x, y := int(m.s.R.A), m.byteOf(from)
	carry := 0
	if name == "adc" || name == "sbc" {
		carry = int(m.s.R.F) / 16 % 2
	}
	var r int
	switch name {
	case "add", "adc":
		r = x + y + carry
		m.setFlags(digit(r%256 == 0), "0", digit(x%16+y%16+carry > 15), digit(r > 255))
	case "sub", "sbc", "cp":
		r = x - y - carry
		m.setFlags(digit(r%256 == 0), "1", digit(x%16-y%16-carry < 0), digit(r < 0))
	default:
		r = bitwise(name, x, y)
		m.setFlags(digit(r == 0), "0", digit(name == "and"), "0")
	}
	if name != "cp" {
		m.s.R.A = byte(r)
	}
}

// bitwise combines two bytes, bit by bit.
func bitwise(name string, x, y int) int {
	least := map[string]int{"and": 2, "or": 1, "xor": 1}[name]
	r := 0
	for bit := 1; bit < 256; bit *= 2 {
		set := x/bit%2 + y/bit%2
		if set >= least && !(name == "xor" && set == 2) {
			r += bit
		}
	}
	return r
}

// bit performs bit, res and set.
func (m *model) bit(name, number, operand string) {
	bit := 1 << (number[0] - '0')
	x := m.byteOf(operand)
	is := x/bit%2 == 1
	switch {
	case name == "bit":
		m.setFlags(digit(!is), "0", "1", "-")
		return
	case name == "res" && is:
		x -= bit
	case name == "set" && !is:
		x += bit
	}
	m.setByte(operand, x)
}

// turn performs rotations, and what is left: daa, cpl, scf and ccf.
func (m *model) turn(name string, operands []string) {
	operand := "a"
	if len(operands) > 0 {
		operand = operands[0]
	}
	carry := int(m.s.R.F) / 16 % 2
	switch name {
	case "daa":
		m.daa(carry)
		return
	case "cpl":
		m.s.R.A = 255 - m.s.R.A
		m.setFlags("-", "1", "1", "-")
		return
	case "scf":
		m.setFlags("-", "0", "0", "1")
		return
	case "ccf":
		m.setFlags("-", "0", "0", digit(carry == 0))
		return
	}
	x := m.byteOf(operand)
	top, bottom := x/128, x%2
	var r, out int
	switch strings.TrimSuffix(name, "a") {
	case "rlc":
		r, out = x*2%256+top, top
	case "rrc":
		r, out = x/2+bottom*128, bottom
	case "rl":
		r, out = x*2%256+carry, top
	case "rr":
		r, out = x/2+carry*128, bottom
	case "sl":
		r, out = x*2%256, top
	case "sr":
		r, out = x/2+top*128, bottom
	case "srl":
		r, out = x/2, bottom
	case "swap":
		r, out = x%16*16+x/16, 0
	}
	m.setByte(operand, r)
	m.setFlags(digit(r == 0 && len(operands) > 0), "0", "0", digit(out == 1))
}

// daa adjusts A.
func (m *model) daa(carry int) {
	x, half, negative := int(m.s.R.A), m.s.R.F/32%2 == 1, m.s.R.F/64%2 == 1
	by := 0
	if half || !negative && x%16 > 9 {
		by += 6
	}
	if carry == 1 || !negative && x > 0x99 {
		by += 0x60
	}
	r := x + by
	if negative {
		r = x - by
	}
	m.s.R.A = byte(r)
	m.setFlags(digit(byte(r) == 0), "-", "0", digit(by >= 0x60))
}
