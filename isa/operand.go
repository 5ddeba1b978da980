package isa

import (
	"strconv"

	"facade/api"
)

// kind is what an operand is.
type kind int

const (
	absent   kind = iota // an instruction doesn't have it: it is 0
	register             // 0 to 15
	number               // 0 to 255
)

// allows tells whether an operand of this kind may be n.
func (k kind) allows(n int) bool {
	switch k {
	case register:
		return n >= 0 && n < api.Regs
	case number:
		return n >= 0 && n <= 255
	}
	return n == 0
}

// text is n as an operand of this kind is written, with the space ahead of it; empty where there is none.
func (k kind) text(n int) string {
	switch k {
	case register:
		return " r" + strconv.Itoa(n)
	case number:
		return " " + strconv.Itoa(n)
	}
	return ""
}

// operands are the kinds of A, B and C.
type operands struct{ a, b, c kind }

// operandsOf are those of an instruction's operands.
func operandsOf(op int) operands {
	switch op {
	case api.Li, api.La, api.Jz, api.Jn, api.Jr,
		api.Halt, api.Stv, api.Out, api.In, api.Tmr, api.Gtm, api.Gcs, api.Gfa, api.Gst, api.Sst:
		return operands{a: register}
	case api.Mov, api.Bwr, api.Brd, api.Spte:
		return operands{a: register, b: register}
	case api.Add, api.Sub, api.And, api.Or, api.Xor, api.Shl, api.Shr, api.Lt, api.Eq, api.Mul, api.Ld, api.St:
		return operands{a: register, b: register, c: third(op)}
	case api.Br:
		return operands{c: third(op)}
	case api.Brz, api.Brn:
		return operands{a: register, c: third(op)}
	}
	return operands{}
}

// third is the kind of C, of an instruction that has it: a number where it tells how far (a jump's from the
// instruction, a load's or a store's from register B), else a register.
func third(op int) kind {
	if ask(Table.Jumps, op) || op == api.Ld || op == api.St {
		return number
	}
	return register
}

// names are the words that instructions are written by.
var names = [...]string{
	api.Nop: "nop", api.Mov: "mov", api.Add: "add", api.Sub: "sub", api.And: "and", api.Or: "or", api.Xor: "xor",
	api.Shl: "shl", api.Shr: "shr", api.Lt: "lt", api.Eq: "eq", api.Ld: "ld", api.St: "st", api.Li: "li", api.La: "la",
	api.Br: "br", api.Brz: "brz", api.Brn: "brn", api.Jmp: "jmp", api.Jz: "jz", api.Jn: "jn", api.Call: "call",
	api.Jr: "jr", api.Mul: "mul",
	api.Halt: "halt", api.Stv: "stv", api.Rti: "rti", api.Out: "out", api.In: "in", api.Bwr: "bwr", api.Brd: "brd",
	api.Tmr: "tmr", api.Gtm: "gtm", api.Spte: "spte", api.Sync: "sync", api.Gcs: "gcs", api.Gfa: "gfa",
	api.Cli: "cli", api.Sti: "sti", api.Gst: "gst", api.Sst: "sst",
	api.Hc: "hc",
}
