package link

import (
	"slices"

	"facade/api"
	"facade/isa"
	"facade/obj"
	"facade/rewrite"
)

// What Map says of a word of Code.
const (
	second = 0 // it is the second word of an instruction
	first  = 1 // an instruction begins
)

// valid is what is wrong with an object that may have calls of the monitor where they are as the rewriter makes them.
func valid(o api.Object) error { return obj.Valid(withoutCalls(o)) }

// withoutCalls is an object whose calls of the monitor, as the rewriter makes them, have become what obj.Valid takes in
// their place, so that it meets all else that is wrong in its own order: an li has two words too, and needs no
// relocation. It may have one, though, which a call may not: so that one becomes a Branch, which neither may have.
func withoutCalls(o api.Object) api.Object {
	p := o
	p.Code, p.CRels = slices.Clone(o.Code), slices.Clone(o.CRels)
	for at := range p.Code {
		if isCall(o, at) {
			p.Code[at], _ = isa.Word(api.Instr{Op: api.Li})
		}
	}
	for k, r := range o.CRels {
		if r.Kind == api.Word && isCall(o, r.At-1) {
			p.CRels[k].Kind = api.Branch
		}
	}
	return p
}

// isCall tells whether a call of the monitor, as the rewriter makes it, begins at a word of Code. The object need not
// be valid, nor the word be there.
func isCall(o api.Object, at int) bool {
	if at < 0 || at >= min(len(o.Code), len(o.Map))-1 || o.Map[at] != first || o.Map[at+1] != second {
		return false
	}
	in, _ := isa.Of(o.Code[at], 0) // of what is none, Op is 0
	_, is := rewrite.Back(o.Code[at+1])
	return is && in.Op == api.Hc
}
