package cpu

import "retrograde/ops"

// Numbers of operands that instructions imply.
const (
	atHL   = 6 // the byte operand that is in memory
	pairHL = 2
	always = 4 // the condition that always holds
)

// lastPage is where the addresses begin that a byte can name.
const lastPage = 0xff00

// perform performs an instruction that has been fetched; taken tells whether
// its condition holds.
func (p *processor) perform(o ops.Op, taken bool) {
	switch o.Kind {
	case ops.Stop:
		p.Stop = true
	case ops.Halt:
		p.Halt = true
	case ops.Bad:
		p.R.PC -= uint16(o.Size)
	case ops.Di:
		p.IME = false
	case ops.Ei:
		p.Soon = true
	case ops.Jr, ops.Jp, ops.Call, ops.Ret:
		p.branch(o, taken)
	case ops.Reti:
		p.leave()
		p.IME = true
	case ops.Rst:
		p.enter(o.N)
	case ops.JpHL:
		p.R.PC = p.pair(pairHL)
	case ops.Push:
		p.push(p.pair(o.X))
	case ops.Pop:
		p.setPair(o.X, p.pop())
	case ops.Move, ops.MoveN, ops.Move16, ops.MoveSP, ops.StoreSP:
		p.move(o)
	case ops.LoadA, ops.LoadHigh, ops.LoadC, ops.LoadFar:
		p.R.A = p.bus.Read(p.address(o))
	case ops.StoreA, ops.StoreHigh, ops.StoreC, ops.StoreFar:
		p.bus.Write(p.address(o), p.R.A)
	default:
		p.calculate(o)
	}
}

// branch performs a jump, call or return that has a condition.
func (p *processor) branch(o ops.Op, taken bool) {
	if o.Kind == ops.Ret && o.X != always {
		p.bus.Idle()
	}
	if !taken {
		return
	}
	switch o.Kind {
	case ops.Jr:
		p.bus.Idle()
		p.R.PC += uint16(int8(o.N))
	case ops.Jp:
		p.bus.Idle()
		p.R.PC = o.N
	case ops.Call:
		p.enter(o.N)
	case ops.Ret:
		p.leave()
	}
}

// enter calls the routine at an address.
func (p *processor) enter(addr uint16) {
	p.push(p.R.PC)
	p.R.PC = addr
}

// leave returns from a routine.
func (p *processor) leave() {
	p.R.PC = p.pop()
	p.bus.Idle()
}

// push is a Push of the word x.
func (p *processor) push(x uint16) {
	p.bus.Idle()
	p.store(x)
}

// store puts the word x on the stack, without the Idle of a Push.
func (p *processor) store(x uint16) {
	p.R.SP--
	p.bus.Write(p.R.SP, byte(x>>8))
	p.R.SP--
	p.bus.Write(p.R.SP, byte(x))
}

// pop takes a word off the stack.
func (p *processor) pop() uint16 {
	low := p.bus.Read(p.R.SP)
	p.R.SP++
	high := p.bus.Read(p.R.SP)
	p.R.SP++
	return uint16(high)<<8 | uint16(low)
}

// move performs a copy that is not one of A alone.
func (p *processor) move(o ops.Op) {
	switch o.Kind {
	case ops.Move:
		p.set(o.X, p.get(o.Y))
	case ops.MoveN:
		p.set(o.X, byte(o.N))
	case ops.Move16:
		p.setPair(o.X, o.N)
	case ops.MoveSP:
		p.bus.Idle()
		p.R.SP = p.pair(pairHL)
	case ops.StoreSP:
		p.bus.Write(o.N, byte(p.R.SP))
		p.bus.Write(o.N+1, byte(p.R.SP>>8))
	}
}

// address returns where an instruction copies A from or to.
func (p *processor) address(o ops.Op) uint16 {
	switch o.Kind {
	case ops.LoadA, ops.StoreA:
		return p.through(o.X)
	case ops.LoadHigh, ops.StoreHigh:
		return lastPage + o.N
	case ops.LoadC, ops.StoreC:
		return lastPage + uint16(p.R.C)
	}
	return o.N
}

// through returns the address in BC, DE or HL that x selects; of the two ways
// to select HL, one moves it up and the other one down.
func (p *processor) through(x int) uint16 {
	addr := p.pair(pairHL)
	switch x {
	case 2:
		p.setPair(pairHL, addr+1)
	case 3:
		p.setPair(pairHL, addr-1)
	default:
		return p.pair(x)
	}
	return addr
}

// get returns byte operand n.
func (p *processor) get(n int) byte {
	if n == atHL {
		return p.bus.Read(p.pair(pairHL))
	}
	x, _ := p.R.Get(n)
	return x
}

// set sets byte operand n to x.
func (p *processor) set(n int, x byte) {
	if n == atHL {
		p.bus.Write(p.pair(pairHL), x)
		return
	}
	p.R, _ = p.R.Set(n, x)
}

// pair returns register pair n.
func (p *processor) pair(n int) uint16 {
	x, _ := p.R.Pair(n)
	return x
}

// setPair sets register pair n to x.
func (p *processor) setPair(n int, x uint16) {
	p.R, _ = p.R.SetPair(n, x)
}
