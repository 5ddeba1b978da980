package core

import (
	"facade/api"
	"facade/isa"
	"facade/mem"
	"facade/walk"
)

// view is memory as the supervisor or a user has it, by the tables whose first level is frame root.
type view struct {
	m    *mem.Mem
	root int
	user bool
}

// place is where the word at an address stands in memory, if it may be read there, or written.
func (v view) place(addr uint32, write bool) (int, bool) {
	return walk.Walk(v.m, v.root, addr, write, v.user)
}

// read is the word at an address, if it may be read there.
func (v view) read(addr uint32) (uint32, bool) {
	at, is := v.place(addr, false)
	if !is {
		return 0, false
	}
	return v.m.Read(at)
}

// fetch is the instruction at pc. Its first word is looked at by itself: where that is none, it counts for nothing
// whether there is a place behind it.
func (v view) fetch(pc uint32) (api.Instr, Stop) {
	first, there := v.read(pc)
	if !there {
		return api.Instr{}, Stop{Cause: api.CausePage, Addr: pc}
	}
	in, is := isa.Of(first, 0)
	size := uint32(1)
	if is && isa.Tables().Two(in.Op) {
		second, there := v.read(pc + 1)
		if !there {
			return api.Instr{}, Stop{Cause: api.CausePage, Addr: pc + 1}
		}
		in, is = isa.Of(first, second)
		size = 2
	}
	if !is {
		return api.Instr{}, Stop{Cause: api.CauseBad}
	}
	return in, Stop{In: in, Len: size}
}
