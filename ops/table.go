package ops

// Numbers that the digits of some instructions do not tell.
const (
	always = 4 // the condition that always holds
	pairAF = 4
)

// digits are those of a byte: it is 64x + 8y + z, and y is 2p + q.
type digits struct {
	x, y, z, p, q int
}

// fill decodes every first byte, and every byte after the prefix.
func (t *Table) fill() {
	for n := range 256 {
		d := digitsOf(n)
		t.plain[n] = plain(d)
		t.prefixed[n] = prefixed(d)
	}
}

// digitsOf returns the digits of the byte n.
func digitsOf(n int) digits {
	y := n >> 3 & 7
	return digits{x: n >> 6, y: y, z: n & 7, p: y >> 1, q: y & 1}
}

// op returns an instruction with as many of the operands X and Y as it uses.
func op(kind, size int, operands ...int) Op {
	var fields [2]int
	copy(fields[:], operands)
	return Op{Kind: kind, X: fields[0], Y: fields[1], Size: size}
}

// prefixed returns the instruction of a byte after the prefix.
func prefixed(d digits) Op {
	kind := Turn
	switch d.x {
	case 1:
		kind = BitAt
	case 2:
		kind = Res
	case 3:
		kind = Set
	}
	return op(kind, 2, d.y, d.z)
}

// plain returns the instruction of a first byte, without the bytes after it.
func plain(d digits) Op {
	switch d.x {
	case 0:
		return firstQuarter(d)
	case 1:
		// The place of a move from the byte at HL to itself.
		if d.y == 6 && d.z == 6 {
			return op(Halt, 1)
		}
		return op(Move, 1, d.y, d.z)
	case 2:
		return op(Sum, 1, d.y, d.z)
	}
	return lastQuarter(d)
}

// firstQuarter returns the instruction of a first byte below 40.
func firstQuarter(d digits) Op {
	switch d.z {
	case 0:
		return relative(d)
	case 1:
		return either(d.q, op(Move16, 3, d.p), op(Add16, 1, d.p))
	case 2:
		return either(d.q, op(StoreA, 1, d.p), op(LoadA, 1, d.p))
	case 3:
		return either(d.q, op(Inc16, 1, d.p), op(Dec16, 1, d.p))
	case 4:
		return op(Inc, 1, d.y)
	case 5:
		return op(Dec, 1, d.y)
	case 6:
		return op(MoveN, 2, d.y)
	}
	return ofA(d)
}

// either returns the first of two instructions if q is 0, and the second one otherwise.
func either(q int, first, second Op) Op {
	if q == 0 {
		return first
	}
	return second
}

// relative returns a relative jump, or one of the three instructions beside them.
func relative(d digits) Op {
	switch d.y {
	case 0:
		return op(Nop, 1)
	case 1:
		return op(StoreSP, 3)
	case 2:
		return op(Stop, 2)
	case 3:
		return op(Jr, 2, always)
	}
	return op(Jr, 2, d.y-4)
}

// ofA returns an instruction that changes only A and the flags.
func ofA(d digits) Op {
	switch d.y {
	case 4:
		return op(Daa, 1)
	case 5:
		return op(Cpl, 1)
	case 6:
		return op(Scf, 1)
	case 7:
		return op(Ccf, 1)
	}
	return op(TurnA, 1, d.y)
}

// lastQuarter returns the instruction of a first byte from c0 on.
func lastQuarter(d digits) Op {
	switch d.z {
	case 0:
		return returnOrHigh(d)
	case 1:
		return either(d.q, op(Pop, 1, stacked(d.p)), withoutOperands(d))
	case 2:
		return jumpOrFar(d)
	case 3:
		return jumpOrSwitch(d)
	case 4:
		return conditionalCall(d)
	case 5:
		return either(d.q, op(Push, 1, stacked(d.p)), call(d))
	case 6:
		return op(SumN, 2, d.y)
	}
	o := op(Rst, 1)
	o.N = uint16(8 * d.y)
	return o
}

// stacked returns the number of the pair that Push and Pop mean by p.
func stacked(p int) int {
	if p == 3 {
		return pairAF
	}
	return p
}

// returnOrHigh returns a conditional return, or an instruction with a byte.
func returnOrHigh(d digits) Op {
	switch d.y {
	case 4:
		return op(StoreHigh, 2)
	case 5:
		return op(AddSP, 2)
	case 6:
		return op(LoadHigh, 2)
	case 7:
		return op(MoveHL, 2)
	}
	return op(Ret, 1, d.y)
}

// withoutOperands returns the instruction that has the place of a second Pop.
func withoutOperands(d digits) Op {
	switch d.p {
	case 0:
		return op(Ret, 1, always)
	case 1:
		return op(Reti, 1)
	case 2:
		return op(JpHL, 1)
	}
	return op(MoveSP, 1)
}

// jumpOrFar returns a conditional jump, or a copy of A from or to a far address.
func jumpOrFar(d digits) Op {
	switch d.y {
	case 4:
		return op(StoreC, 1)
	case 5:
		return op(StoreFar, 3)
	case 6:
		return op(LoadC, 1)
	case 7:
		return op(LoadFar, 3)
	}
	return op(Jp, 3, d.y)
}

// jumpOrSwitch returns the jump, or a switch of the interrupts. The place of
// the prefix counts as bad, for Decode does not look it up.
func jumpOrSwitch(d digits) Op {
	switch d.y {
	case 0:
		return op(Jp, 3, always)
	case 6:
		return op(Di, 1)
	case 7:
		return op(Ei, 1)
	}
	return op(Bad, 1)
}

// conditionalCall returns the call with condition y, if there is one.
func conditionalCall(d digits) Op {
	if d.y < always {
		return op(Call, 3, d.y)
	}
	return op(Bad, 1)
}

// call returns the call that has the place of a second Push, if there is one.
func call(d digits) Op {
	if d.p == 0 {
		return op(Call, 3, always)
	}
	return op(Bad, 1)
}
