package check

import "facade/api"

// deed is what a step is about to do: an interrupt, where one waits, and an instruction.
type deed struct {
	now         int64
	cpu         api.CPU // as it comes to the instruction: at TV, if it is interrupted
	interrupted bool
	in          api.Instr
	cause       int    // CausePage or CauseBad, where the instruction can't be done
	addr        uint32 // of the word that the instruction brings into register A, or from there
	at          int    // that word's place in memory
}

// ends tells whether the deed is the machine's end, by an interrupt that it has no place for. Then it has no instruction.
func (d deed) ends() bool { return d.interrupted && d.cpu.TV == 0 }

// goes tells whether the instruction goes to register A, or has traps go there: a TV of 0 takes none.
func (d deed) goes() bool {
	return d.in.Op == api.Jr || d.in.Op == api.Stv && d.cpu.R[d.in.A] != 0
}

// ahead is what the next step is about to do.
func (c *Check) ahead() deed {
	d := deed{now: c.b.Now(), cpu: c.b.CPU()}
	d.interrupted = d.cpu.IE && c.signals.wait(d.now)
	if d.ends() {
		return d
	}
	if d.interrupted {
		d.cpu.PC = d.cpu.TV
	}
	in, stop := c.view.fetch(d.cpu.PC)
	d.in, d.cause = in, stop.Cause
	if addr, moves := moved(in, d.cpu); moves {
		at, is := c.view.place(addr, in.Op == api.St)
		if !is {
			d.cause = api.CausePage
		}
		d.addr, d.at = addr, at
	}
	return d
}

// moved is the address of the word that an instruction brings into register A, or from there, if it does that.
func moved(in api.Instr, c api.CPU) (uint32, bool) {
	switch in.Op {
	case api.Ld, api.St:
		return c.R[in.B] + uint32(in.C), true
	case api.Li, api.La:
		return c.PC + 1, true // it brings its own second word
	}
	return 0, false
}
