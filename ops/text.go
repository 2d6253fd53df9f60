package ops

import (
	"strconv"
	"strings"
)

// unknown is written in the place of whatever has no name.
const unknown = "?"

// Text returns an instruction in assembler notation.
func Text(o Op) string {
	return line(mnemonic(o), operands(o)...)
}

// line returns a mnemonic with its operands.
func line(mnemonic string, operands ...string) string {
	if len(operands) == 0 {
		return mnemonic
	}
	return mnemonic + " " + strings.Join(operands, ", ")
}

// pick returns the name with number n, or ? if there is none.
func pick(n int, names ...string) string {
	if n < 0 || n >= len(names) {
		return unknown
	}
	return names[n]
}

// mnemonic returns the first word of an instruction.
func mnemonic(o Op) string {
	switch o.Kind {
	case Move, MoveN, Move16, LoadA, StoreA, LoadFar, StoreFar, StoreSP, MoveHL, MoveSP:
		return "ld"
	case LoadHigh, StoreHigh, LoadC, StoreC:
		return "ldh"
	case Sum, SumN:
		return pick(o.X, "add", "adc", "sub", "sbc", "and", "xor", "or", "cp")
	case Inc, Inc16:
		return "inc"
	case Dec, Dec16:
		return "dec"
	case Add16, AddSP:
		return "add"
	case Turn:
		return pick(o.X, "rlc", "rrc", "rl", "rr", "sla", "sra", "swap", "srl")
	case TurnA:
		return pick(o.X, "rlca", "rrca", "rla", "rra")
	case BitAt:
		return "bit"
	case Res:
		return "res"
	case Set:
		return "set"
	}
	return control(o.Kind)
}

// control returns the mnemonic of an instruction that is the only one with it,
// jumps, or uses the stack.
func control(kind int) string {
	switch kind {
	case Nop:
		return "nop"
	case Stop:
		return "stop"
	case Halt:
		return "halt"
	case Bad:
		return "bad"
	case Di:
		return "di"
	case Ei:
		return "ei"
	case Daa:
		return "daa"
	case Cpl:
		return "cpl"
	case Scf:
		return "scf"
	case Ccf:
		return "ccf"
	case Jr:
		return "jr"
	case Jp, JpHL:
		return "jp"
	case Call:
		return "call"
	case Ret:
		return "ret"
	case Reti:
		return "reti"
	case Rst:
		return "rst"
	case Push:
		return "push"
	case Pop:
		return "pop"
	}
	return unknown
}

// operands returns what follows the mnemonic; an unknown kind has none.
func operands(o Op) []string {
	switch o.Kind {
	case Move:
		return list(place(o.X), place(o.Y))
	case MoveN:
		return list(place(o.X), low(o.N))
	case Move16:
		return list(pair(o.X), word(o.N))
	case Sum:
		return list("a", place(o.Y))
	case SumN:
		return list("a", low(o.N))
	case Inc, Dec:
		return list(place(o.X))
	case Inc16, Dec16, Push, Pop:
		return list(pair(o.X))
	case Add16:
		return list("hl", pair(o.X))
	case Turn:
		return list(place(o.Y))
	case BitAt, Res, Set:
		return list(bit(o.X), place(o.Y))
	case Jr:
		return conditional(o.X, low(o.N))
	case Jp, Call:
		return conditional(o.X, word(o.N))
	case Ret:
		return conditional(o.X)
	case JpHL:
		return list("hl")
	case Rst, Stop:
		return list(low(o.N))
	}
	return copied(o)
}

// copied returns the operands of an instruction that copies A or SP, or adds to SP.
func copied(o Op) []string {
	switch o.Kind {
	case LoadA:
		return list("a", through(o.X))
	case StoreA:
		return list(through(o.X), "a")
	case LoadHigh:
		return list("a", at(low(o.N)))
	case StoreHigh:
		return list(at(low(o.N)), "a")
	case LoadC:
		return list("a", at("c"))
	case StoreC:
		return list(at("c"), "a")
	case LoadFar:
		return list("a", at(word(o.N)))
	case StoreFar:
		return list(at(word(o.N)), "a")
	case StoreSP:
		return list(at(word(o.N)), "sp")
	case AddSP:
		return list("sp", low(o.N))
	case MoveHL:
		return list("hl", "sp+"+low(o.N))
	case MoveSP:
		return list("sp", "hl")
	}
	return nil
}

// list returns its arguments.
func list(operands ...string) []string { return operands }

// conditional returns operands after the condition x, which is not written if it always holds.
func conditional(x int, operands ...string) []string {
	if x == always {
		return operands
	}
	return append(list(pick(x, "nz", "z", "nc", "c")), operands...)
}

// place returns the name of byte operand n.
func place(n int) string {
	return pick(n, "b", "c", "d", "e", "h", "l", "(hl)", "a")
}

// pair returns the name of register pair n.
func pair(n int) string { return pick(n, "bc", "de", "hl", "sp", "af") }

// bit returns the number of a bit.
func bit(n int) string { return pick(n, "0", "1", "2", "3", "4", "5", "6", "7") }

// through returns where LoadA and StoreA find their byte.
func through(n int) string { return pick(n, "(bc)", "(de)", "(hl+)", "(hl-)") }

// at returns the byte at an address.
func at(address string) string { return "(" + address + ")" }

// low returns the lower eight bits of n in two digits: the 1 that is put
// before them, and cut off, keeps their leading zeros.
func low(n uint16) string {
	return strconv.FormatUint(0x100|uint64(n&0xff), 16)[1:]
}

// word returns n in four digits.
func word(n uint16) string {
	return strconv.FormatUint(0x10000|uint64(n), 16)[1:]
}
