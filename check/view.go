package check

import (
	"facade/api"
	"facade/bare"
	"facade/core"
	"facade/walk"
)

// root is the frame of the first level of the machine's tables.
const root = 0

// view is where the machine's addresses lead: to an instruction, and to a word's place in memory. It is made of a copy
// of all memory, and so not anew for each step: only updates change it. No store does, since no page that may be written
// is in a frame of the tables or of code.
type view struct {
	fetch func(pc uint32) (api.Instr, core.Stop)
	place func(addr uint32, write bool) (int, bool)
}

// viewOf is the view of a machine as it stands now.
func viewOf(b *bare.Machine) view {
	m := b.Mem()
	return view{
		fetch: func(pc uint32) (api.Instr, core.Stop) { return core.Fetch(m, root, pc, false) },
		place: func(addr uint32, write bool) (int, bool) { return walk.Walk(m, root, addr, write, false) },
	}
}
