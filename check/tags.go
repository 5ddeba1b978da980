package check

import (
	"facade/api"
	"facade/load"
)

// linked is the register that keeps the way back from a call.
const linked = 15

// tags are what holds a place of code: which registers, which words of memory by their places there, and whether TV.
type tags struct {
	regs  [api.Regs]bool
	words []bool
	tv    bool
}

// tagsOf are those with which an image begins: its data stands behind the tables, its code from frame quota on.
func tagsOf(i api.Image, quota int) tags {
	_, code := load.Pages(i)
	t := tags{words: make([]bool, (quota+code)*api.Page)}
	t.name(i.DataRefs, api.Tables)
	t.name(i.Places, quota)
	return t
}

// name tags places behind the beginning of a frame.
func (t *tags) name(places []int, frame int) {
	for _, p := range places {
		t.words[frame*api.Page+p] = true
	}
}

// breaks is what an instruction would break by what its registers hold; 0, if nothing.
func (t *tags) breaks(d deed) int {
	switch op := d.in.Op; {
	case t.asNumber(d.in) && tells(op):
		return Told
	case t.asNumber(d.in):
		return Mixed
	case (op == api.Ld || op == api.St) && d.addr >= codeStart && d.addr < api.Pages*api.Page:
		return CodeRead
	case d.goes() && !t.regs[d.in.A]:
		return NotCode
	}
	return 0
}

// asNumber tells whether an instruction takes a register for a number that holds a place of code.
func (t *tags) asNumber(in api.Instr) bool {
	switch in.Op {
	case api.Ld, api.St, api.Brd:
		return t.regs[in.B]
	case api.Brz, api.Brn, api.Jz, api.Jn, api.Halt, api.Out, api.Tmr, api.Sst:
		return t.regs[in.A]
	case api.Bwr, api.Spte:
		return t.regs[in.A] || t.regs[in.B]
	}
	return reckons(in.Op) && (t.regs[in.B] || t.regs[in.C])
}

// follow makes the tags those behind a deed. One that traps brings nothing anywhere.
func (t *tags) follow(d deed) {
	if d.cause != 0 {
		return
	}
	switch a := &t.regs[d.in.A]; d.in.Op {
	case api.Mov:
		*a = t.regs[d.in.B]
	case api.Ld, api.La, api.Li:
		*a = t.words[d.at]
	case api.St:
		t.words[d.at] = *a
	case api.Call:
		t.regs[linked] = true
	case api.Stv:
		t.tv = *a
	case api.In, api.Brd, api.Gtm, api.Gcs, api.Gfa, api.Gst:
		*a = false
	default:
		if reckons(d.in.Op) {
			*a = false
		}
	}
}

// reckons tells whether an instruction makes register A a number of registers B and C.
func reckons(op int) bool { return op >= api.Add && op <= api.Eq || op == api.Mul }

// tells tells whether what an instruction takes is seen of the machine.
func tells(op int) bool { return op == api.Halt || op == api.Out || op == api.Bwr }
