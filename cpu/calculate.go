package cpu

import (
	"retrograde/alu"
	"retrograde/api"
	"retrograde/ops"
)

// calculate performs an instruction that computes. Nop, which is left over,
// does nothing.
func (p *processor) calculate(o ops.Op) {
	switch o.Kind {
	case ops.Sum:
		p.sum(o.X, p.get(o.Y))
	case ops.SumN:
		p.sum(o.X, byte(o.N))
	case ops.Inc:
		p.change(o.X, alu.Inc)
	case ops.Dec:
		p.change(o.X, alu.Dec)
	case ops.Turn, ops.BitAt, ops.Res, ops.Set:
		p.prefixed(o)
	case ops.Inc16, ops.Dec16, ops.Add16, ops.AddSP, ops.MoveHL:
		p.words(o)
	case ops.TurnA:
		p.R.A, p.R.F = alu.Turn(o.X, p.R.A, p.R.F)
		p.R.F &^= api.FlagZ
	case ops.Daa:
		p.R.A, p.R.F = alu.Daa(p.R.A, p.R.F)
	case ops.Cpl:
		p.R.A = ^p.R.A
		p.R.F = p.kept(api.FlagZ|api.FlagC) | api.FlagN | api.FlagH
	case ops.Scf:
		p.R.F = p.kept(api.FlagZ) | api.FlagC
	case ops.Ccf:
		p.R.F = p.kept(api.FlagZ|api.FlagC) ^ api.FlagC
	}
}

// kept returns those of the given flags that are set.
func (p *processor) kept(flags byte) byte { return p.R.F & flags }

// sum performs an ALU operation of A and x.
func (p *processor) sum(operation int, x byte) {
	a := p.R.A
	carry := p.kept(api.FlagC) != 0
	switch operation {
	case 0:
		p.R.A, p.R.F = alu.Add(a, x, false)
	case 1:
		p.R.A, p.R.F = alu.Add(a, x, carry)
	case 2:
		p.R.A, p.R.F = alu.Sub(a, x, false)
	case 3:
		p.R.A, p.R.F = alu.Sub(a, x, carry)
	case 4:
		p.R.A, p.R.F = alu.And(a, x)
	case 5:
		p.R.A, p.R.F = alu.Xor(a, x)
	case 6:
		p.R.A, p.R.F = alu.Or(a, x)
	case 7:
		// A comparison is a subtraction of which only the flags are wanted.
		_, p.R.F = alu.Sub(a, x, false)
	}
}

// change applies an operation that sets the flags to byte operand n.
func (p *processor) change(n int, operation func(a, flags byte) (r, f byte)) {
	r, f := operation(p.get(n), p.R.F)
	p.set(n, r)
	p.R.F = f
}

// prefixed performs an instruction that has a prefix.
func (p *processor) prefixed(o ops.Op) {
	x := p.get(o.Y)
	switch o.Kind {
	case ops.Turn:
		x, p.R.F = alu.Turn(o.X, x, p.R.F)
		p.set(o.Y, x)
	case ops.BitAt:
		p.R.F = alu.Bit(o.X, x, p.R.F)
	case ops.Res:
		p.set(o.Y, x&^(1<<o.X))
	case ops.Set:
		p.set(o.Y, x|1<<o.X)
	}
}

// words performs arithmetic on words.
func (p *processor) words(o ops.Op) {
	p.bus.Idle()
	switch o.Kind {
	case ops.Inc16:
		p.setPair(o.X, p.pair(o.X)+1)
	case ops.Dec16:
		p.setPair(o.X, p.pair(o.X)-1)
	case ops.Add16:
		sum, f := alu.Add16(p.pair(pairHL), p.pair(o.X), p.R.F)
		p.setPair(pairHL, sum)
		p.R.F = f
	case ops.AddSP:
		p.bus.Idle()
		p.R.SP, p.R.F = alu.Shift16(p.R.SP, byte(o.N))
	case ops.MoveHL:
		sum, f := alu.Shift16(p.R.SP, byte(o.N))
		p.setPair(pairHL, sum)
		p.R.F = f
	}
}
