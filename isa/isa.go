// Package isa: instructions: their words, classes, operands and texts: see ../shared/doc/01-isa.md.
package isa

import (
	"strconv"

	"facade/api"
)

// What becomes of an instruction where it may not be.
const (
	Innocuous = 1
	Trapping  = 2
	Silent    = 3
	Calling   = 4
)

// Table answers questions about instructions by their numbers. It holds nothing: the set of instructions is fixed.
type Table struct{}

// Tables is the table of all instructions.
func Tables() Table { return Table{} }

// Class is one of the four classes, or 0 where there is no such instruction.
func (t Table) Class(op int) int {
	switch {
	case op >= api.Nop && op <= api.Mul:
		return Innocuous
	case op >= api.Halt && op <= api.Gfa:
		return Trapping
	case op >= api.Cli && op <= api.Sst:
		return Silent
	case op == api.Hc:
		return Calling
	}
	return 0
}

// Two tells whether an instruction has a second word.
func (t Table) Two(op int) bool {
	switch op {
	case api.Li, api.La, api.Jmp, api.Jz, api.Jn, api.Call, api.Hc:
		return true
	}
	return false
}

// Jumps tells whether what comes after an instruction may be another one than the one behind it.
func (t Table) Jumps(op int) bool {
	switch op {
	case api.Br, api.Brz, api.Brn, api.Jmp, api.Jz, api.Jn, api.Call, api.Jr:
		return true
	}
	return false
}

// ask puts a question of the table's, taken as a method expression, about one instruction.
func ask[T int | bool](question func(Table, int) T, op int) T {
	return question(Tables(), op)
}

// Word is the first word of an instruction, if it is one.
func Word(i api.Instr) (uint32, bool) {
	if !mayBe(i) {
		return 0, false
	}
	return uint32(i.Op)<<24 | uint32(i.A)<<16 | uint32(i.B)<<8 | uint32(i.C), true
}

// Of is the instruction of a word and the one behind it, if it is one.
func Of(w, imm uint32) (api.Instr, bool) {
	i := api.Instr{Op: int(w >> 24), A: int(w >> 16 & 255), B: int(w >> 8 & 255), C: int(w & 255)}
	if ask(Table.Two, i.Op) {
		i.Imm = imm
	}
	if !mayBe(i) {
		return api.Instr{}, false
	}
	return i, true
}

// Disp is how far a short branch goes: its C, read with a sign.
func Disp(c int) int { return int(int8(c)) }

// Text is an instruction as it is written; empty, if it is none.
func Text(i api.Instr) string {
	if !mayBe(i) {
		return ""
	}
	has := operandsOf(i.Op)
	text := names[i.Op] + has.a.text(i.A) + has.b.text(i.B) + has.c.text(i.C)
	if ask(Table.Two, i.Op) {
		text += " 0x" + strconv.FormatUint(uint64(i.Imm), 16)
	}
	return text
}

// mayBe tells whether an instruction is one: there is its number, and each of its parts is in its range.
func mayBe(i api.Instr) bool {
	if ask(Table.Class, i.Op) == 0 {
		return false
	}
	has := operandsOf(i.Op)
	return has.a.allows(i.A) && has.b.allows(i.B) && has.c.allows(i.C) && (i.Imm == 0 || ask(Table.Two, i.Op))
}
