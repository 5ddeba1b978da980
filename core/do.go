package core

import (
	"facade/alu"
	"facade/api"
	"facade/isa"
)

// linked is the register that keeps the way back from a call.
const linked = 15

// Each of these is handed the processor and what fetch ended with: an instruction of its kind.

// innocuous is the processor behind an instruction that may stand anywhere.
func (v view) innocuous(c api.CPU, s Stop) (api.CPU, Stop) {
	switch {
	case s.In.Op == api.Ld || s.In.Op == api.St:
		return v.move(c, s)
	case isa.Tables().Jumps(s.In.Op):
		return jump(c, s), s
	}
	c.R, _ = alu.Do(s.In, c.R) // there is no other kind: it does each of these
	c.PC += s.Len
	return c, s
}

// move is the processor behind one that brings a word from memory into a register, or the other way.
func (v view) move(c api.CPU, s Stop) (api.CPU, Stop) {
	store := s.In.Op == api.St
	addr := c.R[s.In.B] + uint32(s.In.C)
	at, is := v.place(addr, store)
	if !is {
		s.Cause, s.Addr = api.CausePage, addr
		return c, s
	}
	if store {
		v.m.Write(at, c.R[s.In.A])
	} else {
		c.R[s.In.A], _ = v.m.Read(at)
	}
	c.PC += s.Len
	return c, s
}

// jump is the processor behind one that may go elsewhere.
func jump(c api.CPU, s Stop) api.CPU {
	behind := c.PC + s.Len
	if taken, _ := alu.Taken(s.In, c.R); !taken {
		c.PC = behind
		return c
	}
	c.PC = target(c, s.In)
	if s.In.Op == api.Call {
		c.R[linked] = behind
	}
	return c
}

// target is where a jump goes that is taken. A short one goes so far from its own address, not from the one behind it.
func target(c api.CPU, in api.Instr) uint32 {
	switch in.Op {
	case api.Br, api.Brz, api.Brn:
		return c.PC + uint32(isa.Disp(in.C))
	case api.Jr:
		return c.R[in.A]
	}
	return in.Imm
}

// silent is the processor behind one that traps of the supervisor only. A user isn't told that it did nothing; what it
// gets of Gst is not how the processor stands.
func silent(c api.CPU, s Stop, user bool) (api.CPU, Stop) {
	if !user {
		s.Cause = api.CausePriv
		return c, s
	}
	if s.In.Op == api.Gst {
		c.R[s.In.A] = 1
	}
	c.PC += s.Len
	return c, s
}
