package rewrite_test

import (
	"slices"
	"testing"

	"facade/api"
	"facade/obj"
	"facade/rewrite"
)

// checkRefused holds that Do and Needs answer an error and nothing beside it, and change nothing of the object.
func checkRefused(t *testing.T, what string, o api.Object, pos int, want error) {
	t.Helper()
	was := obj.Clone(o)
	p, places, err := rewrite.Do(o)
	checkError(t, what+": Do", err, pos, want)
	n, bad := rewrite.Needs(o)
	checkError(t, what+": Needs", bad, pos, want)
	if !obj.Same(p, api.Object{}) || len(places) > 0 || n != 0 {
		t.Errorf("%s: %v, %v, %d beside an error", what, p, places, n)
	}
	if !obj.Same(o, was) {
		t.Errorf("%s: the object was changed: %s", what, firstDifference(told{object: o}, told{object: was}))
	}
}

// P11.1: Valid's error of each kind, with its place, ahead of and behind words that would be rewritten.
func TestP11_1Refused(t *testing.T) {
	for _, x := range []struct {
		what string
		pos  int
		err  error
		do   func(o *api.Object)
	}{
		{"too much Data", alone, api.ErrMany, func(o *api.Object) { o.Data = make([]uint32, 2049) }},
		{"too much Code", alone, api.ErrMany, func(o *api.Object) {
			o.Code, o.Map = append(o.Code, make([]uint32, 2035)...), append(o.Map, slices.Repeat([]byte{2}, 2035)...)
		}},
		{"too many relocations of Data", alone, api.ErrMany, func(o *api.Object) { o.DRels = make([]api.Reloc, 1025) }},
		{"too many relocations of Code", alone, api.ErrMany, func(o *api.Object) { o.CRels = make([]api.Reloc, 1025) }},
		{"too many symbols", alone, api.ErrMany, func(o *api.Object) { o.Syms = make([]api.Sym, 257) }},
		{"no Map", alone, api.ErrMap, func(o *api.Object) { o.Map = nil }},
		{"Map is too short", alone, api.ErrMap, func(o *api.Object) { o.Map = o.Map[:13] }},
		{"Map is too long", alone, api.ErrMap, func(o *api.Object) { o.Map = append(o.Map, 1) }},
		{"no Code", alone, api.ErrMap, func(o *api.Object) { o.Code = nil }},
		{"no instruction first", 0, api.ErrOp, func(o *api.Object) { o.Code[0] = 0 }},
		{"no instruction last", 13, api.ErrOp, func(o *api.Object) { o.Code[13] |= 1 }},
		{"an Hc", 9, api.ErrOp, func(o *api.Object) { o.Code[9] = hc }},
		{"Mark in an instruction", 4, api.ErrOp, func(o *api.Object) { o.Code[4] |= rewrite.Mark }},
		{"a second word of one", 9, api.ErrMap, func(o *api.Object) { o.Map[9] = 0 }},
		{"no second word", 2, api.ErrMap, func(o *api.Object) { o.Map[3] = 2 }},
		{"two words, the last", 13, api.ErrMap, func(o *api.Object) { o.Code[13] = w(api.Li, 1, 0, 0) }},
		{"what is no mark", 5, api.ErrMap, func(o *api.Object) { o.Map[5] = 3 }},
		{"no name", 1, api.ErrRange, func(o *api.Object) { o.Syms[1].Name = "" }},
		{"a name that was there", 2, api.ErrTwice, func(o *api.Object) { o.Syms[2].Name = "d" }},
		{"a symbol in a second word", 4, api.ErrRange, func(o *api.Object) { o.Syms[4].Value = 3 }},
		{"a symbol in a table", 5, api.ErrRange, func(o *api.Object) { o.Syms[5].Value = 5 }},
		{"a symbol behind Code", 0, api.ErrRange, func(o *api.Object) { o.Syms[0].Value = 14 }},
		{"a symbol ahead of Code", 3, api.ErrRange, func(o *api.Object) { o.Syms[3].Value = -1 }},
		{"a relocation of no Data", 1, api.ErrRange, func(o *api.Object) { o.DRels[1].At = 2 }},
		{"Add of no Data's symbol", 0, api.ErrShape, func(o *api.Object) { o.DRels[0].Add = 1 }},
		{"a relocation of no Code", 4, api.ErrRange, func(o *api.Object) { o.CRels[4].At = 14 }},
		{"relocations that don't rise", 2, api.ErrRange, func(o *api.Object) { o.CRels[2].At = 3 }},
		{"a relocation of what is rewritten", 0, api.ErrShape, func(o *api.Object) { o.CRels[0] = api.Reloc{At: 0, Kind: api.Word} }},
		{"a branch that isn't repaired", 1, api.ErrNone, func(o *api.Object) { o.CRels = o.CRels[1:] }},
		{"a jump that isn't repaired", 6, api.ErrNone, func(o *api.Object) { o.CRels = o.CRels[:3] }},
	} {
		o := mixed()
		x.do(&o)
		checkRefused(t, x.what, o, x.pos, x.err)
	}
}

// P11.1: what has come out with an Hc in it does not go in again.
func TestP11_1Again(t *testing.T) {
	p, _, err := rewrite.Do(mixed())
	if err != nil {
		t.Fatal(err)
	}
	checkRefused(t, "mixed, again", p, 0, api.ErrOp)
	o, want := laid(instruction(api.Call), instruction(api.Br), instruction(api.Sst))
	check(t, "the last", o, want)
	checkRefused(t, "the last, again", want.object, 3, api.ErrOp)
}

// P0.2, P11.1: where Code would have too many words and something is wrong, it is told what is wrong.
func TestP11_1ValidFirst(t *testing.T) {
	long := func(words int) api.Object {
		return api.Object{Code: slices.Repeat([]uint32{w(api.Cli, 0, 0, 0)}, words), Map: slices.Repeat([]byte{1}, words)}
	}
	checkTooLong(t, "too long", long(2048), 4096)
	checkRefused(t, "too long as it is", long(2049), alone, api.ErrMany)
	checkRefused(t, "far too long as it is", long(70000), alone, api.ErrMany)
	o := long(2048)
	o.Code[2047] = 0
	checkRefused(t, "too long, and no instruction", o, 2047, api.ErrOp)
	o = long(2048)
	o.Map[1025] = 0
	checkRefused(t, "too long, and no second word", o, 1025, api.ErrMap)
	o = long(2048)
	o.Syms = []api.Sym{{Name: "s", In: api.InCode, Value: 2048}}
	checkRefused(t, "too long, and a symbol behind it, where rewritten code would be", o, 0, api.ErrRange)
}

// P0.4, P11.1: what lies behind the lengths of an object's lists counts for nothing, and stays.
func TestP11_1BehindLists(t *testing.T) {
	long := api.Object{
		Data:  []uint32{5, 6},
		Code:  []uint32{w(api.Cli, 0, 0, 0), w(api.Nop, 0, 0, 0), w(api.Halt, 1, 0, 0), w(api.Sti, 0, 0, 0)},
		Map:   []byte{1, 1, 1, 1},
		DRels: []api.Reloc{{At: 0, Kind: api.Word}, {At: 9}},
		CRels: []api.Reloc{{At: -1}},
		Syms:  []api.Sym{{Name: "far", In: api.Absent, Global: true}, {Name: "s", In: api.InCode, Value: 3}, {}},
	}
	was := obj.Clone(long)
	places := []int{0, 2, 3, 5}
	for n, words := range places {
		o := api.Object{Data: long.Data[:1], Code: long.Code[:n], Map: long.Map[:n], DRels: long.DRels[:1], CRels: long.CRels[:0], Syms: long.Syms[:1]}
		want := obj.Clone(o)
		want.Code = []uint32{hc, 0x80000000 | long.Code[0], long.Code[1], hc, 0x80000000 | long.Code[2]}[:words]
		want.Map = []byte{1, 0, 1, 1, 0}[:words]
		check(t, "the first words", o, told{want, places[:n+1]})
	}
	if !obj.Same(long, was) {
		t.Error("what lies behind the lists was written")
	}
}

// fill writes into all of a list, its spare room too.
func fill[T any](l []T, x T) {
	for k := range l[:cap(l)] {
		l[:cap(l)][k] = x
	}
}

// spoil writes into all the lists of what Do told.
func spoil(x told) {
	fill(x.object.Data, 0xdead)
	fill(x.object.Code, 0xdead)
	fill(x.object.Map, 77)
	fill(x.object.DRels, api.Reloc{At: -7})
	fill(x.object.CRels, api.Reloc{At: -7})
	fill(x.object.Syms, api.Sym{Name: "written"})
	fill(x.places, -7)
}

// P0.4: what is handed out is new memory: whatever is written into it, or into the object, no other one shows it; and
// no list of an answer reaches into another one of it.
func TestP11_1New(t *testing.T) {
	nothing := slices.DeleteFunc(pieces(), func(p piece) bool { return p.change })
	for _, l := range [][]piece{pieces(), nothing} {
		o, want := laid(l...)
		was := obj.Clone(o)
		do := func() told {
			p, places, err := rewrite.Do(o)
			if err != nil {
				t.Fatal(err)
			}
			return told{p, places}
		}
		hold := func(what string, got told) {
			if d := firstDifference(got, want); !obj.Same(got.object, want.object) || !slices.Equal(got.places, want.places) {
				t.Errorf("%s is seen in an answer: %s", what, d)
			}
		}
		a, b := do(), do()
		spoil(a)
		hold("what is written into an answer", b)
		hold("what is written into an answer ahead", do())
		if !obj.Same(o, was) {
			t.Error("what is written into an answer is seen in the object")
		}
		c := do()
		spoil(told{object: o})
		hold("what is written into the object", b)
		for _, list := range []func(x told){
			func(x told) { fill(x.object.Data, 0xdead); copy(x.object.Data, want.object.Data) },
			func(x told) { fill(x.object.Code, 0xdead); copy(x.object.Code, want.object.Code) },
			func(x told) { fill(x.object.Map, 77); copy(x.object.Map, want.object.Map) },
			func(x told) { fill(x.object.DRels, api.Reloc{At: -7}); copy(x.object.DRels, want.object.DRels) },
			func(x told) { fill(x.object.CRels, api.Reloc{At: -7}); copy(x.object.CRels, want.object.CRels) },
			func(x told) { fill(x.object.Syms, api.Sym{In: -7}); copy(x.object.Syms, want.object.Syms) },
			func(x told) { fill(x.places, -7); copy(x.places, want.places) },
		} {
			list(c)
			hold("what is written into another list of an answer", c)
		}
	}
}

// P0.5: what is answered hangs on the object as it is now.
func TestP11_1Now(t *testing.T) {
	o := api.Object{Code: []uint32{w(api.Nop, 0, 0, 0), w(api.Cli, 0, 0, 0)}, Map: []byte{1, 1}}
	check(t, "as it was", o, told{api.Object{Code: []uint32{w(api.Nop, 0, 0, 0), hc, 0x80000000 | w(api.Cli, 0, 0, 0)}, Map: []byte{1, 1, 0}}, []int{0, 1, 3}})
	o.Code[0], o.Code[1] = o.Code[1], o.Code[0]
	check(t, "as it is now", o, told{api.Object{Code: []uint32{hc, 0x80000000 | w(api.Cli, 0, 0, 0), w(api.Nop, 0, 0, 0)}, Map: []byte{1, 0, 1}}, []int{0, 2, 3}})
	o.Map[0], o.Map[1] = 2, 2
	check(t, "as tables", o, told{obj.Clone(o), []int{0, 1, 2}})
}
