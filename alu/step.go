package alu

import "facade/api"

// lowFive are the bits of a word that tell how far another one is shifted.
const lowFive = 31

// step is an instruction, and the registers ahead of it. Its methods read a register only when they are called: C is
// a register of some instructions, and a number that may be greater than any of others.
type step struct {
	in api.Instr
	r  api.Regs16
}

// reckons is what the instruction does: it answers the word that register A becomes. Nil, if it doesn't only reckon.
func (s *step) reckons() func() uint32 {
	switch s.in.Op {
	case api.Nop:
		return s.a // it has no A, so that this is register 0: it stays what it is
	case api.Mov:
		return s.b
	case api.Add:
		return s.add
	case api.Sub:
		return s.sub
	case api.And:
		return s.and
	case api.Or:
		return s.or
	case api.Xor:
		return s.xor
	case api.Shl:
		return s.shl
	case api.Shr:
		return s.shr
	case api.Lt:
		return s.lt
	case api.Eq:
		return s.eq
	case api.Mul:
		return s.mul
	case api.Li, api.La:
		return s.imm
	}
	return nil
}

// jumps is how the instruction, one that may jump, tells whether it does.
func (s *step) jumps() func() bool {
	switch s.in.Op {
	case api.Brz, api.Jz:
		return s.zero
	case api.Brn, api.Jn:
		return s.notZero
	}
	return s.always
}

func (s *step) a() uint32   { return s.r[s.in.A] }
func (s *step) b() uint32   { return s.r[s.in.B] }
func (s *step) c() uint32   { return s.r[s.in.C] }
func (s *step) imm() uint32 { return s.in.Imm }

func (s *step) add() uint32 { return s.b() + s.c() }
func (s *step) sub() uint32 { return s.b() - s.c() }
func (s *step) mul() uint32 { return s.b() * s.c() }
func (s *step) and() uint32 { return s.b() & s.c() }
func (s *step) or() uint32  { return s.b() | s.c() }
func (s *step) xor() uint32 { return s.b() ^ s.c() }
func (s *step) shl() uint32 { return s.b() << (s.c() & lowFive) }
func (s *step) shr() uint32 { return s.b() >> (s.c() & lowFive) }
func (s *step) lt() uint32  { return one(s.b() < s.c()) }
func (s *step) eq() uint32  { return one(s.b() == s.c()) }

func (s *step) always() bool  { return true }
func (s *step) zero() bool    { return s.a() == 0 }
func (s *step) notZero() bool { return s.a() != 0 }

// one is 1 of what is so, else 0.
func one(so bool) uint32 {
	if so {
		return 1
	}
	return 0
}
