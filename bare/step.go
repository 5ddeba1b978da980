package bare

import (
	"facade/api"
	"facade/core"
	"facade/trap"
)

// interrupt takes what interrupts now, if anything does.
func (b *Machine) interrupt() {
	cause := trap.Waits(b.c, b.d, b.now, false)
	if cause == 0 {
		return
	}
	if cause == api.CauseTimer {
		b.d.Rang()
	}
	b.take(cause, 0)
}

// instruct does the instruction at PC, or takes the trap that it leads to.
func (b *Machine) instruct() {
	c, s := core.Once(b.m, root, b.c, false)
	switch s.Cause {
	case 0:
		b.c = c
	case api.CausePriv:
		b.privileged(s)
	case api.CauseCall:
		b.take(api.CauseBad, 0) // there is no monitor here to be called
	default:
		b.take(s.Cause, s.Addr)
	}
}

// take takes a trap; where the processor has no place for it, the machine is over.
func (b *Machine) take(cause int, addr uint32) {
	var is bool
	if b.c, is = trap.Enter(b.c, cause, addr); !is {
		b.end(api.SeenFault, uint32(cause))
	}
}

// end ends the machine, and shows how.
func (b *Machine) end(kind int, n uint32) {
	b.over = true
	b.d.End(kind, n)
}

// privileged does an instruction that is the supervisor's alone.
func (b *Machine) privileged(s core.Stop) {
	switch s.In.Op {
	case api.Halt:
		b.end(api.SeenHalt, b.c.R[s.In.A])
		return
	case api.Rti:
		b.c = trap.Return(b.c)
		return
	case api.Spte:
		b.put(b.c.R[s.In.A], b.c.R[s.In.B])
	case api.Sync:
		b.flush()
	case api.Out, api.In, api.Bwr, api.Brd, api.Tmr:
		b.c.R = devices(b.c.R, b.d, b.now, s.In)
	default:
		b.c = processor(b.c, b.now, s.In)
	}
	b.c.PC += s.Len
}
