package link_test

import (
	"testing"

	"facade/api"
	"facade/link"
)

// harm is something that is wrong with one of four objects, or with all of them.
type harm struct {
	what string
	do   func(l []*source, k int) // it is done to object k
	at   bool                     // the object's place is around the error
	err  error
	word int // the place in the object, or -1
}

// harms are what may be wrong, in the promise's order.
func harms() []harm {
	return []harm{
		{"no instruction", func(l []*source, k int) { l[k].Code[0] = 0 }, true, api.ErrOp, 0},
		{"a name of another one", func(l []*source, k int) { l[k].label("taken").nops(1) }, true, api.ErrTwice, -1},
		{"a name that nobody has", func(l []*source, k int) { l[k].sym("nowhere") }, true, api.ErrNone, -1},
		{"a jump into data", func(l []*source, k int) { l[k].far(w(api.Jmp, 0, 0, 0), 0, "datum", 0) }, true, api.ErrShape, -1},
		{"no main", func(l []*source, k int) { l[3].Syms[0].Name = "other" }, false, api.ErrNone, -1},
		{"too long", func(l []*source, k int) { l[k].data(make([]uint32, 2040)...) }, false, api.ErrMany, -1},
	}
}

// four are objects that link; the first one has the names that a harm needs.
func four() []*source {
	return []*source{
		new(source).label("taken").nops(1).datum("datum").data(make([]uint32, 9)...),
		new(source).nops(2), new(source).nops(2), start().nops(2),
	}
}

// P13.1: of two errors the one that comes first in the promise's order, whichever object has it.
func TestP13_1Order(t *testing.T) {
	if _, err := link.Link(objects(four()...)...); err != nil {
		t.Fatal(err)
	}
	for a, one := range harms() {
		for b, other := range harms() {
			if b < a || a == b && !one.at {
				continue
			}
			for _, places := range [][2]int{{1, 2}, {2, 1}, {1, 1}} {
				l := four()
				if a == b && places[0] == places[1] {
					continue
				}
				one.do(l, places[0])
				other.do(l, places[1])
				want := one
				place := places[0]
				if a == b {
					place = 1
				} else if b == 1 && places[1] < places[0] { // a name of another one is met object by object, with what is invalid
					want, place = other, places[1]
				}
				checkHarm(t, one.what+", "+other.what, l, want, place)
			}
		}
	}
}

// checkHarm holds that objects are refused by something that is wrong with one of them.
func checkHarm(t *testing.T, what string, l []*source, x harm, place int) {
	t.Helper()
	want := at(x.err)
	if x.at {
		want.places = append(want.places, place)
	}
	if x.word >= 0 {
		want.places = append(want.places, x.word)
	}
	checkRefused(t, what, objects(l...), want)
}

// P13.1: within an object what is invalid comes ahead of a name that another one has.
func TestP13_1OrderOfOne(t *testing.T) {
	has := func() *source { return new(source).label("x").nops(1) }
	twice := has()
	twice.put("y", api.InData, 5, false)
	checkRefused(t, "a name of another one, and a symbol behind data", objects(start().nops(1), has(), twice), at(api.ErrRange, 2, 1))
	unrepaired := has()
	unrepaired.one(w(api.Br, 0, 0, 0))
	checkRefused(t, "a name of another one, and a branch that isn't repaired", objects(has(), unrepaired), at(api.ErrNone, 1, 1))
	checkRefused(t, "the object ahead of what is invalid", objects(has(), has(), unrepaired), at(api.ErrTwice, 1))
	checkRefused(t, "the object behind what is invalid", objects(has(), unrepaired, has()), at(api.ErrNone, 1, 1))
}

// P13.1: each of the later ones is asked of all objects ahead of the next.
func TestP13_1OrderOfAll(t *testing.T) {
	jumps := func() *source { return new(source).far(w(api.Call, 0, 0, 0), 0, "d", 0) }
	data := func() *source { return new(source).datum("d").data(make([]uint32, 2048)...) }
	asks := new(source)
	asks.sym("nobody")
	checkRefused(t, "all of it", objects(jumps(), data(), asks, data()), at(api.ErrTwice, 3))
	checkRefused(t, "but twice", objects(jumps(), data(), asks, new(source).data(1)), at(api.ErrNone, 2))
	checkRefused(t, "but Absent", objects(new(source).data(1), jumps(), data(), jumps()), at(api.ErrShape, 1))
	checkRefused(t, "but jumps", objects(new(source).data(1), data()), at(api.ErrNone))
	checkRefused(t, "but main", objects(new(source).data(1), data(), start().nops(1)), at(api.ErrMany))
}
