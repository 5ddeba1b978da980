package link_test

import (
	"slices"
	"testing"

	"facade/api"
	"facade/link"
	"facade/rewrite"
)

// mark is the second word of a call that stands for an instruction.
func mark(word uint32) uint32 { return 0x80000000 | word }

// P13.3 Patched: objects that have something to be rewritten, and one that has nothing.
func TestP13_3Patched(t *testing.T) {
	was := objects(first(), middle(), last())
	i, err := link.Patched(objects(first(), middle(), last())...)
	checkImage(t, "three objects", i, err, api.Image{
		Entry: 2049,
		Data:  []uint32{10, 5, 2 + 7, 2055, 2051, 20, 21, 2055, 5, 2067},
		Code: []uint32{
			w(api.Nop, 0, 0, 0), w(api.La, 1, 0, 0), 1, w(api.Call, 0, 0, 0), 2055, w(api.Brz, 2, 0, 254), w(api.Br, 0, 0, 13),
			w(api.Add, 1, 2, 3), w(api.Li, 4, 0, 0), 5, w(api.Jn, 5, 0, 0), 2067, 2049, 5, 84, hc, w(api.Brn, 6, 0, 256-15),
			w(api.Li, 7, 0, 0), 77, hc, mark(w(api.Halt, 1, 0, 0)), hc, mark(w(api.Cli, 0, 0, 0)), w(api.Jmp, 0, 0, 0), 2071, w(api.Br, 0, 0, 256-18),
		},
		DataRefs: []int{3, 4, 7, 9},
		Places:   []int{4, 11, 12, 24},
		Starts:   []int{0, 1, 3, 5, 6, 7, 8, 10, 16, 17, 19, 21, 23, 25},
	})
	l := objects(first(), middle(), last())
	if _, err := link.Patched(l...); err != nil || !sameAll(l, was) {
		t.Errorf("an object was changed, %v", err)
	}
	nothing := objects(first(), middle(), new(source).label("end").nops(1))
	i, err = link.Link(nothing...)
	if err != nil {
		t.Fatal(err)
	}
	p, err := link.Patched(nothing...)
	checkImage(t, "nothing to be rewritten", p, err, i)
}

// P13.3 Patched: each instruction that is rewritten; what stands behind it is moved.
func TestP13_3PatchedEach(t *testing.T) {
	for _, word := range sites() {
		s := new(source).ref(0, "main", 0).branch(w(api.Br, 0, 0, 0), "main").one(word).label("main").one(word).branch(w(api.Brz, 1, 0, 0), "main").entry(0, "main", 0)
		i, err := link.Patched(s.Object)
		checkImage(t, "patched", i, err, api.Image{
			Entry: 2051, Data: []uint32{2051},
			Code:     []uint32{w(api.Br, 0, 0, 3), hc, mark(word), hc, mark(word), w(api.Brz, 1, 0, 254), 2051},
			DataRefs: []int{0}, Places: []int{6}, Starts: []int{0, 1, 3, 5},
		})
	}
}

// P13.3 Patched: a branch that is short in Link and long there, since what it goes over is rewritten.
func TestP13_3PatchedLong(t *testing.T) {
	s := start().branch(w(api.Brn, 2, 0, 0), "to").one(slices.Repeat([]uint32{w(api.Cli, 0, 0, 0)}, 64)...).label("to").nops(1)
	if i := linked(t, s); i.Code[0] != w(api.Brn, 2, 0, 65) {
		t.Errorf("short: 0x%x", i.Code[0])
	}
	i, err := link.Patched(s.Object)
	if err != nil || i.Code[0] != w(api.Jn, 2, 0, 0) || i.Code[1] != 2178 || len(i.Code) != 131 || !slices.Equal(i.Places, []int{1}) {
		t.Errorf("long: %v, %v", i, err)
	}
	a, b, err := link.Map(s.Object)
	if err != nil || len(a) != 66 || len(b) != 66 || a[1] != 2049 || b[1] != 2050 || a[65] != 2113 || b[65] != 2178 {
		t.Errorf("Map: %v, %v, %v", a, b, err)
	}
}

// P13.3 Patched: the errors of rewrite.Do, around the object's place, ahead of all of Link's.
func TestP13_3PatchedRefused(t *testing.T) {
	main, far := start().nops(1), new(source).label("far").nops(1)
	bad := new(source).nops(1).one(0)
	twoHalves := new(source).one(slices.Repeat([]uint32{w(api.Sti, 0, 0, 0)}, 1025)...)
	for _, x := range []struct {
		what string
		want fault
		l    []*source
	}{
		{"what is invalid", at(api.ErrOp, 0, 1), []*source{bad, main}},
		{"what is invalid, behind", at(api.ErrOp, 1, 1), []*source{main, bad, bad}},
		{"too many words", at(api.ErrMany, 1), []*source{main, twoHalves}},
		{"too many words as it is", at(api.ErrMany, 0), []*source{new(source).nops(2049), main}},
		{"a call", at(api.ErrOp, 1, 0), []*source{main, new(source).call(w(api.Cli, 0, 0, 0))}},
		{"Map is too short", at(api.ErrMap, 0), []*source{{api.Object{Code: []uint32{5}}}}},
		{"what is invalid, ahead of a name twice", at(api.ErrOp, 2, 1), []*source{main, main, bad}},
		{"too many words, ahead of a name twice", at(api.ErrMany, 2), []*source{main, main, twoHalves}},
		{"what is invalid, ahead of too many objects", at(api.ErrOp, 17, 1), append(slices.Repeat([]*source{new(source)}, 17), bad)},
		{"a name twice", at(api.ErrTwice, 2), []*source{main, far, main}},
		{"a name that nobody has", at(api.ErrNone, 1), []*source{main, mixedPlain()}},
		{"a jump into data", at(api.ErrShape, 1), []*source{main, mixedPlain(), new(source).datum("far")}},
		{"no main", at(api.ErrNone), []*source{far}},
		{"too many words in all", at(api.ErrMany), []*source{main, {api.Object{Code: twoHalves.Code[:1000], Map: twoHalves.Map[:1000]}}, new(source).nops(48)}},
		{"too much data", at(api.ErrMany), []*source{main, new(source).data(make([]uint32, 2048)...), new(source).data(1)}},
	} {
		checkPatchedRefused(t, x.what, objects(x.l...), x.want)
	}
	for what, x := range wrongs() {
		x.want.places = slices.Insert(x.want.places, 0, 1)
		if x.o = withoutCall(x.o); x.o.Code == nil {
			continue
		}
		checkPatchedRefused(t, what, []api.Object{main.Object, x.o, far.Object}, x.want)
	}
}

// mixedPlain is an object that jumps to "far".
func mixedPlain() *source { return new(source).far(w(api.Jn, 3, 0, 0), 0, "far", 0) }

// withoutCall is an object whose call of the monitor at word 4 is an li.
func withoutCall(o api.Object) api.Object {
	if len(o.Code) < 6 || o.Code[4] != hc {
		return api.Object{}
	}
	o.Code = slices.Clone(o.Code)
	o.Code[4] = w(api.Li, 1, 0, 0)
	return o
}

// P13.3 Where: each kind of symbol.
func TestP13_3Where(t *testing.T) {
	a := new(source).data(1, 2).datum("d").data(3).ownDatum("mine").data(4).nops(1).label("main").branch(w(api.Br, 0, 0, 0), "far").nops(1).own("own").nops(1)
	a.sym("e")
	b := new(source).datum("e").data(5).ownDatum("own").data(6).datum("last").data(7).nops(130).label("far").nops(2).own("d").nops(1).label("end").nops(1)
	for _, x := range []struct {
		name   string
		ab, ba uint32
		none   bool
	}{
		{"main", 2049, 2183, false}, {"d", 2, 5, false}, {"far", 2183, 2178, false}, {"e", 4, 0, false}, {"last", 6, 2, false}, {"end", 2186, 2181, false},
		{"mine", 0, 0, true}, {"own", 0, 0, true}, {"", 0, 0, true}, {"nobody", 0, 0, true}, {"Main", 0, 0, true}, {"main\x00", 0, 0, true},
	} {
		want := at(nil)
		if x.none {
			want = at(api.ErrNone)
		}
		checkWhere(t, objects(a, b), x.name, x.ab, want)
		checkWhere(t, objects(b, a), x.name, x.ba, want)
	}
}

// checkWhere holds Where against what it has to be, and that it changes nothing.
func checkWhere(t *testing.T, l []api.Object, name string, want uint32, bad fault) {
	t.Helper()
	was := clones(l)
	got, err := link.Where(l, name)
	checkError(t, "Where "+name, err, bad)
	if got != want {
		t.Errorf("Where %q is %d, want %d", name, got, want)
	}
	if !sameAll(l, was) {
		t.Errorf("Where %q: an object was changed", name)
	}
}

// P13.3 Where: Link's error, ahead of what the name is.
func TestP13_3WhereRefused(t *testing.T) {
	main := start().nops(1)
	for _, name := range []string{"main", "nobody", "x", ""} {
		checkWhere(t, nil, name, 0, at(api.ErrNone))
		checkWhere(t, objects(main, main), name, 0, at(api.ErrTwice, 1))
		checkWhere(t, objects(new(source).label("x").nops(1)), name, 0, at(api.ErrNone))
		checkWhere(t, objects(main, new(source).data(make([]uint32, 2049)...)), name, 0, at(api.ErrMany, 1))
		checkWhere(t, make([]api.Object, 17), name, 0, at(api.ErrMany))
		checkWhere(t, objects(main, new(source).far(w(api.La, 1, 0, 0), 0, "x", 0)), name, 0, at(api.ErrNone, 1))
	}
}

// P13.3 Map: each instruction of Link beside the same one of Patched.
func TestP13_3Map(t *testing.T) {
	l := objects(first(), middle(), last())
	was := clones(l)
	a, b, err := link.Map(l...)
	wantA := []uint32{2048, 2049, 2051, 2053, 2054, 2055, 2056, 2058, 2064, 2065, 2067, 2068, 2069, 2071}
	wantB := []uint32{2048, 2049, 2051, 2053, 2054, 2055, 2056, 2058, 2064, 2065, 2067, 2069, 2071, 2073}
	if err != nil || !slices.Equal(a, wantA) || !slices.Equal(b, wantB) {
		t.Errorf("%v\n%v\n%v", a, b, err)
	}
	if !sameAll(l, was) {
		t.Error("an object was changed")
	}
	i, _ := link.Link(l...)
	p, _ := link.Patched(l...)
	for k := range a {
		x, y := i.Code[a[k]-2048], p.Code[b[k]-2048]
		if y == hc {
			y = p.Code[b[k]-2047] &^ rewrite.Mark
		}
		if x>>16 != y>>16 {
			t.Errorf("instruction %d is 0x%x, and 0x%x", k, x, y)
		}
	}
	a, b, err = link.Map(start().nops(2).Object)
	if err != nil || !slices.Equal(a, []uint32{2048, 2049}) || !slices.Equal(b, a) {
		t.Errorf("nothing to be rewritten: %v, %v, %v", a, b, err)
	}
}

// P13.3 Map: Link's error ahead of Patched's, and Patched's alone.
func TestP13_3MapRefused(t *testing.T) {
	main := start().nops(1)
	call := new(source).call(w(api.Cli, 0, 0, 0))
	full := new(source).one(slices.Repeat([]uint32{w(api.Sti, 0, 0, 0)}, 1025)...)
	asks := new(source)
	asks.sym("nobody")
	for _, x := range []struct {
		what string
		want fault
		l    []*source
	}{
		{"Patched alone: a call", at(api.ErrOp, 1, 0), []*source{main, call}},
		{"Patched alone: an object that gets too long", at(api.ErrMany, 1), []*source{main, full}},
		{"Patched alone: all that gets too long", at(api.ErrMany), []*source{main, {api.Object{Code: full.Code[:1024], Map: full.Map[:1024]}}}},
		{"both: Absent, and a call", at(api.ErrNone, 2), []*source{main, call, asks}},
		{"both: no main, and a call", at(api.ErrNone), []*source{call}},
		{"both: too long in all, and an object that gets too long", at(api.ErrMany), []*source{main, full, full}},
		{"both: a name twice, and an object that gets too long", at(api.ErrTwice, 2), []*source{main, full, main}},
		{"both: too many, and a call", at(api.ErrMany), slices.Repeat([]*source{call}, 17)},
		{"both: the same", at(api.ErrOp, 1, 0), []*source{main, new(source).one(0)}},
	} {
		l := objects(x.l...)
		was := clones(l)
		a, b, err := link.Map(l...)
		checkError(t, x.what, err, x.want)
		if len(a)+len(b) > 0 {
			t.Errorf("%s: %v, %v beside an error", x.what, a, b)
		}
		if !sameAll(l, was) {
			t.Errorf("%s: an object was changed", x.what)
		}
	}
}
