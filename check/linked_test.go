package check_test

import (
	"testing"

	"facade/api"
	"facade/check"
	"facade/link"
)

// kernel is an object that takes its traps where a word of its data says, and calls another object's function, which
// takes a fault. What it has as the last instruction but one is open.
func kernel(last uint32) api.Object {
	return api.Object{
		Data: []uint32{0, 7},
		Code: []uint32{
			w(api.La, 1, 0, 0), 0, w(api.Ld, 2, 1, 0), w(api.Stv, 2, 0, 0), w(api.Ld, 3, 1, 1), w(api.Out, 3, 0, 0), w(api.Call, 0, 0, 0), 0, last, w(api.Halt, 3, 0, 0),
			w(api.Out, 3, 0, 0), w(api.La, 4, 0, 0), 0, w(api.Jr, 4, 0, 0),
		},
		Map:   []byte{1, 0, 1, 1, 1, 1, 1, 0, 1, 1, 1, 1, 0, 1},
		DRels: []api.Reloc{{At: 0, Kind: api.Word, Sym: 2}},
		CRels: []api.Reloc{{At: 1, Kind: api.Word, Sym: 1}, {At: 7, Kind: api.Word, Sym: 3}, {At: 12, Kind: api.Word, Sym: 4}},
		Syms: []api.Sym{
			{Name: "main", In: api.InCode, Value: 0, Global: true}, {Name: "words", In: api.InData, Value: 0}, {Name: "taker", In: api.InCode, Value: 10},
			{Name: "function", In: api.Absent, Global: true}, {Name: "back", In: api.InCode, Value: 8, Global: true},
		},
	}
}

// function is an object whose function is reached by a branch that has to be long, and takes a fault there.
func function() api.Object {
	o := api.Object{Code: []uint32{w(api.Br, 0, 0, 0)}, Map: []byte{1}, CRels: []api.Reloc{{At: 0, Kind: api.Branch, Sym: 1}}}
	for range 200 {
		o.Code, o.Map = append(o.Code, w(api.Nop, 0, 0, 0)), append(o.Map, 1)
	}
	o.Code, o.Map = append(o.Code, w(api.Ld, 5, 6, 255)), append(o.Map, 1)
	o.Syms = []api.Sym{{Name: "function", In: api.InCode, Value: 0, Global: true}, {Name: "there", In: api.InCode, Value: 201}}
	return o
}

// linked is the check of two objects.
func linked(t *testing.T, l ...api.Object) *check.Check {
	t.Helper()
	i, err := link.Link(l...)
	if err != nil {
		t.Fatal(err)
	}
	return made(t, i)
}

// P15.1: what link.Link lays out is checked by the lists that it names: a kernel that behaves, to its end.
func TestP15_1Linked(t *testing.T) {
	c := linked(t, kernel(w(api.Nop, 0, 0, 0)), function())
	run(t, c, 10)
	goes(t, "jr to what la brought", c, tags(2, 4, 15))
	goes(t, "the last but one", c, tags(2, 4, 15))
	over(t, "halt", c, api.Seen{Kind: api.SeenHalt, N: 7})
	if l := c.Machine().Seen(); len(l) != 3 || c.Broken() != 0 {
		t.Errorf("seen %v, broken %d", l, c.Broken())
	}
}

// P15.1: what they bring is a place of code, or of data, which is a number.
func TestP15_1LinkedTags(t *testing.T) {
	for _, x := range []struct {
		last uint32
		want int
	}{
		{w(api.Out, 2, 0, 0), check.Told}, {w(api.Out, 4, 0, 0), check.Told}, {w(api.Out, 15, 0, 0), check.Told}, {w(api.Add, 6, 2, 1), check.Mixed}, {w(api.Ld, 6, 4, 0), check.Mixed},
		{w(api.Jr, 1, 0, 0), check.NotCode}, {w(api.Out, 1, 0, 0), 0}, {w(api.Add, 6, 1, 1), 0},
	} {
		c := linked(t, kernel(x.last), function())
		run(t, c, 11)
		if x.want != 0 {
			breaks(t, "the last but one", c, x.want)
		} else {
			run(t, c, 2)
		}
	}
}
