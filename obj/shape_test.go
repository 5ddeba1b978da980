package obj_test

import (
	"strconv"
	"testing"

	"facade/api"
	"facade/isa"
)

// The symbols of shapes.
const (
	toCode = iota
	toData
	toNone
)

// shape is code of a nop, the operation (with its second word, if it has one), a table and a nop. Its relocations are
// those that it needs, but at is one of that kind, or none if kind is 0.
func shape(op, at, kind, sym int) api.Object {
	o := code("1121", w(api.Nop, 0, 0, 0), w(op, 0, 0, 0), w(op, 0, 0, 0), w(api.Nop, 0, 0, 0))
	if isa.Tables().Two(op) {
		o = code("11021", w(api.Nop, 0, 0, 0), w(op, 0, 0, 0), w(op, 0, 0, 0), 0, w(api.Nop, 0, 0, 0))
	}
	o.Data = []uint32{1, 2}
	o.Syms = []api.Sym{{Name: "c", In: api.InCode, Value: 1}, {Name: "d", In: api.InData, Value: 1}, {Name: "f", In: api.Absent, Global: true}}
	for k := range o.Code {
		needs := 0
		switch {
		case k == 1 && isBranch(op):
			needs = api.Branch
		case k == 2 && o.Map[2] == 0 && op != api.Li:
			needs = api.Word
		}
		switch {
		case k == at && kind != 0:
			o.CRels = append(o.CRels, api.Reloc{At: k, Kind: kind, Sym: sym})
		case k != at && needs != 0:
			o.CRels = append(o.CRels, api.Reloc{At: k, Kind: needs, Sym: toCode})
		}
	}
	return o
}

func isBranch(op int) bool { return op == api.Br || op == api.Brz || op == api.Brn }

// may tells whether a relocation of that kind may stand at a word of shape's, by that symbol.
func may(o api.Object, op, at, kind, sym int) bool {
	switch {
	case kind == api.Branch:
		return at == 1 && isBranch(op) && sym != toData
	case o.Map[at] == 2:
		return true
	case at != 2:
		return false
	}
	return sym != toData || op == api.Li || op == api.La
}

// P9.1: of each operation, each word of its code, each kind of relocation, each kind of symbol: what may be repaired,
// and by which.
func TestP9_1Shapes(t *testing.T) {
	x := isa.Tables()
	for op := range 256 {
		if x.Class(op) == 0 || op == api.Hc {
			continue
		}
		for at := range len(shape(op, 0, 0, 0).Code) {
			for _, kind := range []int{api.Word, api.Branch} {
				for sym := range 3 {
					o := shape(op, at, kind, sym)
					what := "op " + strconv.Itoa(op) + " at " + strconv.Itoa(at) + " kind " + strconv.Itoa(kind) + " sym " + strconv.Itoa(sym)
					if may(o, op, at, kind, sym) {
						checkTaken(t, what, o)
						continue
					}
					k := 0
					for o.CRels[k].At != at {
						k++
					}
					checkValid(t, what, o, k, api.ErrShape)
				}
			}
		}
	}
}

// P9.1: a Branch at words that look like branches, but where none begins.
func TestP9_1BranchElsewhere(t *testing.T) {
	br := w(api.Br, 0, 0, 3)
	far := []api.Sym{{Name: "f", In: api.Absent, Global: true}}
	for what, x := range map[string]struct {
		o  api.Object
		at int
	}{
		"a second word": {code("10", w(api.Li, 0, 0, 0), br), 1},
		"a table":       {code("2", br), 0},
	} {
		x.o.Syms, x.o.CRels = far, []api.Reloc{{At: x.at, Kind: api.Branch}}
		checkValid(t, what, x.o, 0, api.ErrShape)
		x.o.CRels[0].Kind = api.Word
		checkTaken(t, what, x.o)
	}
}

// P9.1: ErrNone of each operation that has to be repaired and isn't, around the place of its first word.
func TestP9_1None(t *testing.T) {
	x := isa.Tables()
	for op := range 256 {
		if x.Class(op) == 0 || op == api.Hc {
			continue
		}
		what, at := "operation "+strconv.Itoa(op), 1
		if x.Two(op) {
			at = 2
		}
		o := shape(op, at, 0, 0)
		switch op {
		case api.Br, api.Brz, api.Brn, api.Jmp, api.Jz, api.Jn, api.Call, api.La:
			checkValid(t, what, o, 1, api.ErrNone)
		default:
			checkTaken(t, what, o)
		}
	}
}

// P9.1: ErrNone is told of the first word, and others' relocations don't help.
func TestP9_1NoneFirst(t *testing.T) {
	for k, at := range map[int]int{0: 0, 1: 2, 2: 4, 5: 9, 6: 11} {
		o := changed(func(o *api.Object) { o.CRels = append(o.CRels[:k:k], o.CRels[k+1:]...) })
		checkValid(t, "without one", o, at, api.ErrNone)
		o = changed(func(o *api.Object) { o.CRels = o.CRels[:k] })
		checkValid(t, "without one and those behind", o, at, api.ErrNone)
	}
	checkTaken(t, "without li's", changed(func(o *api.Object) { o.CRels = append(o.CRels[:4:4], o.CRels[5:]...) }))
	checkTaken(t, "without a table's", changed(func(o *api.Object) { o.CRels = append(o.CRels[:3:3], o.CRels[4:]...) }))
	checkValid(t, "without any", changed(func(o *api.Object) { o.CRels = nil }), 0, api.ErrNone)
	behind := code("1110", w(api.Nop, 0, 0, 0), w(api.Br, 0, 0, 0), w(api.La, 0, 0, 0), 0)
	checkValid(t, "behind a nop", behind, 1, api.ErrNone)
}
