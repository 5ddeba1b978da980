package obj

import (
	"cmp"
	"slices"

	"facade/api"
	"facade/isa"
)

// What Map says of a word of Code.
const (
	second = 0 // it is the second word of an instruction
	first  = 1 // an instruction begins
	table  = 2
)

const (
	maxName = 32    // bytes of a symbol's name
	maxAdd  = 65536 // words that a relocation adds, either way
)

// object is an object that is looked through. Each of its questions that answers an error leans on those that Valid
// puts ahead of it.
type object api.Object

// Valid is what is wrong with an object, the first of it; nil, if nothing is.
func Valid(o api.Object) error {
	if sizesOf(o).tooMany() {
		return api.ErrMany
	}
	if len(o.Map) != len(o.Code) {
		return api.ErrMap
	}
	x := object(o)
	for _, list := range []struct {
		length int
		fault  func(at int) error
	}{
		{len(o.Code), x.word},
		{len(o.Syms), x.symbol},
		{len(o.DRels), x.dataReloc},
		{len(o.CRels), x.codeReloc},
		{len(o.Code), x.unrepaired},
	} {
		for at := range list.length {
			if err := list.fault(at); err != nil {
				return &api.At{Pos: at, Err: err}
			}
		}
	}
	return nil
}

// op is the operation of the instruction that begins at a word of Code; 0, if none does. Of two words the second may be
// any, so it isn't looked at.
func (o object) op(at int) int {
	if at < 0 || o.Map[at] != first {
		return 0
	}
	in, _ := isa.Of(o.Code[at], 0)
	return in.Op
}

// word is what is wrong with a word of Code, by what Map says of it.
func (o object) word(at int) error {
	switch o.Map[at] {
	case first:
		return o.firstWord(at)
	case second:
		if !isa.Tables().Two(o.op(at - 1)) {
			return api.ErrMap
		}
	case table:
	default:
		return api.ErrMap
	}
	return nil
}

// firstWord is what is wrong with a word of Code where an instruction begins.
func (o object) firstWord(at int) error {
	op := o.op(at)
	if op == 0 || isa.Tables().Class(op) == isa.Calling {
		return api.ErrOp
	}
	if isa.Tables().Two(op) && (at+1 == len(o.Code) || o.Map[at+1] != second) {
		return api.ErrMap
	}
	return nil
}

// symbol is what is wrong with a symbol.
func (o object) symbol(k int) error {
	s := o.Syms[k]
	switch {
	case s.Name == "" || len(s.Name) > maxName:
		return api.ErrRange
	case slices.ContainsFunc(o.Syms[:k], func(ahead api.Sym) bool { return ahead.Name == s.Name }):
		return api.ErrTwice
	case !o.stands(s):
		return api.ErrRange
	}
	return nil
}

// stands tells whether a symbol stands where one may.
func (o object) stands(s api.Sym) bool {
	switch s.In {
	case api.InData:
		return s.Value >= 0 && s.Value < max(len(o.Data), 1) // where Data begins is a place, though there is none
	case api.InCode:
		return s.Value >= 0 && s.Value < len(o.Code) && o.Map[s.Value] == first
	case api.Absent:
		return s.Value == 0 && s.Global
	}
	return false
}

// dataReloc is what is wrong with a relocation of Data.
func (o object) dataReloc(k int) error {
	r := o.DRels[k]
	switch {
	case !o.inRange(o.DRels, k, len(o.Data)) || r.Kind != api.Word:
		return api.ErrRange
	case o.addsOutside(r):
		return api.ErrShape
	}
	return nil
}

// codeReloc is what is wrong with a relocation of Code.
func (o object) codeReloc(k int) error {
	r := o.CRels[k]
	switch {
	case !o.inRange(o.CRels, k, len(o.Code)) || r.Kind != api.Word && r.Kind != api.Branch:
		return api.ErrRange
	case !o.repairs(r) || o.addsOutside(r):
		return api.ErrShape
	}
	return nil
}

// inRange tells whether the numbers of a relocation, one of a list's of so many words, are in their ranges, whatever
// its Kind is.
func (o object) inRange(l []api.Reloc, k, words int) bool {
	r := l[k]
	rises := k == 0 || r.At > l[k-1].At
	return rises && r.At >= 0 && r.At < words && r.Sym >= 0 && r.Sym < len(o.Syms) && r.Add >= -maxAdd && r.Add <= maxAdd
}

// addsOutside tells whether a relocation adds something to what doesn't stand in data.
func (o object) addsOutside(r api.Reloc) bool { return r.Add != 0 && o.Syms[r.Sym].In != api.InData }

// repairs tells whether what stands where a relocation of Code is can be repaired by it: nothing jumps into data.
func (o object) repairs(r api.Reloc) bool {
	toData := o.Syms[r.Sym].In == api.InData
	if r.Kind == api.Branch {
		return branches(o.op(r.At)) && !toData
	}
	if o.Map[r.At] == table {
		return true
	}
	op := o.op(r.At - 1) // one that has two words has its second at At
	return op == api.Li || op == api.La || jumpsFar(op) && !toData
}

// unrepaired is ErrNone, if an instruction begins there that no relocation repairs, though it has to be. That those
// there are have the right Kind was asked ahead.
func (o object) unrepaired(at int) error {
	op := o.op(at)
	if branches(op) && !o.hasReloc(at) || (op == api.La || jumpsFar(op)) && !o.hasReloc(at+1) {
		return api.ErrNone
	}
	return nil
}

// hasReloc tells whether a word of Code is repaired. It is asked once it is known that CRels rise.
func (o object) hasReloc(at int) bool {
	_, is := slices.BinarySearchFunc(o.CRels, at, func(r api.Reloc, at int) int { return cmp.Compare(r.At, at) })
	return is
}

// branches tells whether an operation is a jump that has its distance in C.
func branches(op int) bool { return op == api.Br || op == api.Brz || op == api.Brn }

// jumpsFar tells whether an operation is a jump that has its address in a second word.
func jumpsFar(op int) bool {
	return op == api.Jmp || op == api.Jz || op == api.Jn || op == api.Call
}
