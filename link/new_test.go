package link_test

import (
	"slices"
	"testing"

	"facade/api"
	"facade/link"
)

// fill writes into all of a list, its spare room too.
func fill[T any](l []T, x T) {
	for k := range l[:cap(l)] {
		l[:cap(l)][k] = x
	}
}

// spoil writes into all lists of an image.
func spoil(i api.Image) {
	fill(i.Data, 0xdead)
	fill(i.Code, 0xdead)
	fill(i.DataRefs, -7)
	fill(i.Places, -7)
	fill(i.Starts, -7)
}

// answer is all that is told of objects.
type answer struct {
	plain, patched api.Image
	a, b           []uint32
}

// answers are those of objects that link.
func answers(t *testing.T, l []api.Object) answer {
	t.Helper()
	var x answer
	var err error
	if x.plain, err = link.Link(l...); err != nil {
		t.Fatal(err)
	}
	if x.patched, err = link.Patched(l...); err != nil {
		t.Fatal(err)
	}
	if x.a, x.b, err = link.Map(l...); err != nil {
		t.Fatal(err)
	}
	return x
}

// same tells whether two answers are the same.
func (x answer) same(y answer) bool {
	return sameImage(x.plain, y.plain) && sameImage(x.patched, y.patched) && slices.Equal(x.a, y.a) && slices.Equal(x.b, y.b)
}

// clone is a copy of an answer.
func (x answer) clone() answer {
	return answer{cloneImage(x.plain), cloneImage(x.patched), slices.Clone(x.a), slices.Clone(x.b)}
}

func cloneImage(i api.Image) api.Image {
	return api.Image{Entry: i.Entry, Data: slices.Clone(i.Data), Code: slices.Clone(i.Code), DataRefs: slices.Clone(i.DataRefs), Places: slices.Clone(i.Places), Starts: slices.Clone(i.Starts)}
}

// P0.4: what is handed out is nobody's: whatever is written into it, no other answer and no object shows it.
func TestP0_4Answers(t *testing.T) {
	for _, l := range [][]api.Object{
		objects(first(), middle(), last()), objects(start().nops(1)), objects(start().data(1, 2).nops(1)),
		objects(start().nops(1), new(source).data(1, 2)), objects(start().branch(w(api.Br, 0, 0, 0), "end").nops(200).own("end").nops(1)),
	} {
		was := clones(l)
		x := answers(t, l)
		want, y := x.clone(), answers(t, l)
		spoil(x.plain)
		spoil(x.patched)
		fill(x.a, 0xdead)
		fill(x.b, 0xdead)
		if !sameAll(l, was) {
			t.Error("what is written into an answer is seen in an object")
		}
		if !y.same(want) || !answers(t, l).same(want) {
			t.Error("what is written into an answer is seen in another one")
		}
	}
}

// P0.4: no list of an answer reaches into another one of it.
func TestP0_4Lists(t *testing.T) {
	l := objects(first(), middle(), last())
	for k, write := range []func(x *answer){
		func(x *answer) { fill(x.plain.Data, 0xdead); x.plain.Data = nil },
		func(x *answer) { fill(x.plain.Code, 0xdead); x.plain.Code = nil },
		func(x *answer) { fill(x.plain.DataRefs, -7); x.plain.DataRefs = nil },
		func(x *answer) { fill(x.plain.Places, -7); x.plain.Places = nil },
		func(x *answer) { fill(x.plain.Starts, -7); x.plain.Starts = nil },
		func(x *answer) { fill(x.a, 0xdead); x.a = nil },
		func(x *answer) { fill(x.b, 0xdead); x.b = nil },
	} {
		x := answers(t, l)
		want := x.clone()
		write(&x)
		write(&want)
		if !x.same(want) {
			t.Errorf("what is written into list %d is seen in another one", k)
		}
	}
}

// P0.4: what is written into an object behind a call is not seen in what the call answered.
func TestP0_4Kept(t *testing.T) {
	l := objects(first(), middle(), last())
	x := answers(t, l)
	want := x.clone()
	for k := range l {
		fill(l[k].Data, 0xdead)
		fill(l[k].Code, 0xdead)
		fill(l[k].Map, 9)
		fill(l[k].DRels, api.Reloc{At: -7})
		fill(l[k].CRels, api.Reloc{At: -7})
		fill(l[k].Syms, api.Sym{Name: "written"})
	}
	if !x.same(want) {
		t.Error("what is written into an object is seen in an answer")
	}
}

// P0.4: what lies behind the lengths of an object's lists, and behind the list of objects, counts for nothing, and
// stays.
func TestP0_4Behind(t *testing.T) {
	long := start().datum("d").data(5).ref(6, "d", 1).branch(w(api.Br, 0, 0, 0), "main").far(w(api.La, 1, 0, 0), 0, "d", 0).call(w(api.Cli, 0, 0, 0))
	long.nops(1).one(0, hc)
	long.Data, long.Syms = append(long.Data, 99), append(long.Syms, api.Sym{})
	long.DRels, long.CRels = append(long.DRels, api.Reloc{At: -1}), append(long.CRels, api.Reloc{At: -1})
	all := []api.Object{long.Object, long.Object}
	was := clones(all)
	l := all[:1]
	l[0] = api.Object{Data: long.Data[:2], Code: long.Code[:6], Map: long.Map[:6], DRels: long.DRels[:1], CRels: long.CRels[:2], Syms: long.Syms[:2]}
	i, err := link.Link(l...)
	checkImage(t, "what is ahead", i, err, api.Image{
		Entry: 2048, Data: []uint32{5, 1},
		Code:   []uint32{w(api.Br, 0, 0, 0), w(api.La, 1, 0, 0), 0, hc, mark(w(api.Cli, 0, 0, 0)), w(api.Nop, 0, 0, 0)},
		Starts: []int{0, 1, 3, 5},
	})
	spoil(i)
	l[0] = long.Object
	if !sameAll(all, was) {
		t.Error("what lies behind the lists was written")
	}
	// a call whose second word lies behind the code is none
	cut := api.Object{Code: long.Code[3:4], Map: long.Map[3:4]}
	checkRefused(t, "a call that is cut", []api.Object{cut}, at(api.ErrOp, 0, 0))
}

// P0.5: what is answered hangs on the objects as they are now.
func TestP0_5Now(t *testing.T) {
	l := objects(first(), middle(), last())
	x := answers(t, l)
	l[0].Data[0], l[1].Syms[2].Name = 11, "start"
	checkRefused(t, "a name less", l, at(api.ErrNone, 0))
	l[1].Syms[2].Name = "work"
	x.plain.Data[0], x.patched.Data[0] = 11, 11
	for range 20 {
		if !answers(t, l).same(x) {
			t.Fatal("another answer")
		}
	}
}
