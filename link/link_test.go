package link_test

import (
	"slices"
	"testing"

	"facade/api"
	"facade/link"
)

// P13.2: the chapter's example: one word of code.
func TestP13_2Example(t *testing.T) {
	checkLink(t, "a nop", api.Image{Entry: 2048, Code: []uint32{w(api.Nop, 0, 0, 0)}, Starts: []int{0}}, start().nops(1))
}

// first, middle and last are objects that stand on one another, with data and code each.
func first() *source {
	s := new(source).data(10).ref(99, "shared", 0).ownDatum("mine").ref(98, "mine", 7)
	s.ref(97, "work", 0).ref(96, "loop", 0)
	s.one(w(api.Nop, 0, 0, 0)).label("main").far(w(api.La, 1, 0, 0), 95, "mine", -1).own("loop").far(w(api.Call, 0, 0, 0), 94, "work", 0)
	return s.branch(w(api.Brz, 2, 0, 93), "loop").branch(w(api.Br, 0, 0, 92), "end")
}

func middle() *source {
	s := new(source).datum("shared").data(20, 21).ref(89, "loop", 0)
	s.own("loop").label("work").one(w(api.Add, 1, 2, 3)).far(w(api.Li, 4, 0, 0), 88, "shared", 0).far(w(api.Jn, 5, 0, 0), 87, "end", 0)
	return s.entry(86, "main", 0).entry(85, "shared", 0).table(84, hc).branch(w(api.Brn, 6, 0, 1), "main")
}

func last() *source {
	s := new(source).ref(79, "shared", 0).ref(78, "end", 0)
	s.two(w(api.Li, 7, 0, 0), 77).label("end").one(w(api.Halt, 1, 0, 0), w(api.Cli, 0, 0, 0)).own("loop")
	return s.far(w(api.Jmp, 0, 0, 0), 76, "loop", 0).branch(w(api.Br, 0, 0, 0), "work")
}

// P13.2: three objects with data and code each, in three orders.
func TestP13_2Orders(t *testing.T) {
	// Data: first has 5 words, middle 3, last 2. Code: first has 7, middle 10, last 7.
	checkLink(t, "first, middle, last", api.Image{
		Entry: 2049,
		Data:  []uint32{10, 5, 2 + 7, 2055, 2051, 20, 21, 2055, 5, 2067},
		Code: []uint32{
			w(api.Nop, 0, 0, 0), w(api.La, 1, 0, 0), 1, w(api.Call, 0, 0, 0), 2055, w(api.Brz, 2, 0, 254), w(api.Br, 0, 0, 13),
			w(api.Add, 1, 2, 3), w(api.Li, 4, 0, 0), 5, w(api.Jn, 5, 0, 0), 2067, 2049, 5, 84, hc, w(api.Brn, 6, 0, 256-15),
			w(api.Li, 7, 0, 0), 77, w(api.Halt, 1, 0, 0), w(api.Cli, 0, 0, 0), w(api.Jmp, 0, 0, 0), 2069, w(api.Br, 0, 0, 256-16),
		},
		DataRefs: []int{3, 4, 7, 9},
		Places:   []int{4, 11, 12, 22},
		Starts:   []int{0, 1, 3, 5, 6, 7, 8, 10, 16, 17, 19, 20, 21, 23},
	}, first(), middle(), last())
	checkLink(t, "last, first, middle", api.Image{
		Entry: 2056,
		Data:  []uint32{7, 2050, 10, 7, 4 + 7, 2062, 2058, 20, 21, 2062},
		Code: []uint32{
			w(api.Li, 7, 0, 0), 77, w(api.Halt, 1, 0, 0), w(api.Cli, 0, 0, 0), w(api.Jmp, 0, 0, 0), 2052, w(api.Br, 0, 0, 8),
			w(api.Nop, 0, 0, 0), w(api.La, 1, 0, 0), 3, w(api.Call, 0, 0, 0), 2062, w(api.Brz, 2, 0, 254), w(api.Br, 0, 0, 256-11),
			w(api.Add, 1, 2, 3), w(api.Li, 4, 0, 0), 7, w(api.Jn, 5, 0, 0), 2050, 2056, 7, 84, hc, w(api.Brn, 6, 0, 256-15),
		},
		DataRefs: []int{1, 5, 6, 9},
		Places:   []int{5, 11, 18, 19},
		Starts:   []int{0, 2, 3, 4, 6, 7, 8, 10, 12, 13, 14, 15, 17, 23},
	}, last(), first(), middle())
	checkLink(t, "middle, last, first", api.Image{
		Entry: 2066,
		Data:  []uint32{20, 21, 2048, 0, 2060, 10, 0, 7 + 7, 2048, 2068},
		Code: []uint32{
			w(api.Add, 1, 2, 3), w(api.Li, 4, 0, 0), 0, w(api.Jn, 5, 0, 0), 2060, 2066, 0, 84, hc, w(api.Brn, 6, 0, 9),
			w(api.Li, 7, 0, 0), 77, w(api.Halt, 1, 0, 0), w(api.Cli, 0, 0, 0), w(api.Jmp, 0, 0, 0), 2062, w(api.Br, 0, 0, 256-16),
			w(api.Nop, 0, 0, 0), w(api.La, 1, 0, 0), 6, w(api.Call, 0, 0, 0), 2048, w(api.Brz, 2, 0, 254), w(api.Br, 0, 0, 256-11),
		},
		DataRefs: []int{2, 4, 8, 9},
		Places:   []int{4, 5, 15, 21},
		Starts:   []int{0, 1, 3, 9, 10, 12, 13, 14, 16, 17, 18, 20, 22, 23},
	}, middle(), last(), first())
}

// P13.2: two objects, the other way round.
func TestP13_2Two(t *testing.T) {
	a := func() *source {
		return new(source).data(1).datum("d").ref(0, "f", 0).label("main").far(w(api.Call, 0, 0, 0), 0, "f", 0)
	}
	b := func() *source {
		return new(source).ref(5, "d", 0).label("f").branch(w(api.Br, 0, 0, 0), "main")
	}
	checkLink(t, "a, b", api.Image{
		Entry: 2048, Data: []uint32{1, 2050, 1}, Code: []uint32{w(api.Call, 0, 0, 0), 2050, w(api.Br, 0, 0, 254)},
		DataRefs: []int{1}, Places: []int{1}, Starts: []int{0, 2},
	}, a(), b())
	checkLink(t, "b, a", api.Image{
		Entry: 2049, Data: []uint32{2, 1, 2048}, Code: []uint32{w(api.Br, 0, 0, 1), w(api.Call, 0, 0, 0), 2048},
		DataRefs: []int{2}, Places: []int{2}, Starts: []int{0, 1},
	}, b(), a())
}

// P13.2: an address and Add go round; the word that is repaired counts for nothing.
func TestP13_2Add(t *testing.T) {
	ahead := new(source).data(0, 0, 0)
	s := new(source).data(7).datum("d").ref(0xffffffff, "d", -5).ref(1, "d", 65536).ref(2, "d", -65536).ref(3, "d", -4)
	s.label("main").far(w(api.Li, 1, 0, 0), 9, "d", -5).far(w(api.La, 1, 0, 0), 9, "d", 65536).entry(0xfffffff0, "d", -65536).entry(4, "d", 2044)
	checkLink(t, "adds", api.Image{
		Entry: 2048,
		Data:  []uint32{0, 0, 0, 7, 0xffffffff, 65540, 0xffff0004, 0},
		Code:  []uint32{w(api.Li, 1, 0, 0), 0xffffffff, w(api.La, 1, 0, 0), 65540, 0xffff0004, 2048},
		// an address of data that is a place of code by its number is none
		Starts: []int{0, 2},
	}, ahead, s)
}

// P13.2: a symbol of data where an object has none stands where its data would.
func TestP13_2NoData(t *testing.T) {
	empty := new(source).datum("here")
	use := func() *source { return start().far(w(api.Li, 1, 0, 0), 5, "here", 0) }
	three := new(source).data(1, 2, 3)
	for _, x := range []struct {
		what string
		want uint32
		l    []*source
	}{
		{"all empty", 0, []*source{empty, use()}},
		{"behind three words", 3, []*source{three, empty, use()}},
		{"ahead of three words", 0, []*source{empty, three, use()}},
		{"behind all that there may be", 2048, []*source{new(source).data(make([]uint32, 2048)...), use(), empty}},
	} {
		i, err := link.Link(objects(x.l...)...)
		if err != nil || i.Code[1] != x.want || len(i.Places) > 0 {
			t.Errorf("%s: %v, %v, want %d", x.what, i.Code, err, x.want)
		}
		at, err := link.Where(objects(x.l...), "here")
		if err != nil || at != x.want {
			t.Errorf("%s: Where is %d, %v, want %d", x.what, at, err, x.want)
		}
	}
}

// P13.2: an Absent symbol is what another object has, ahead or behind, in data or in code; DataRefs and Places have
// those in code alone.
func TestP13_2Absent(t *testing.T) {
	user := func() *source {
		s := start().ref(1, "d", 0).ref(2, "c", 0).ref(3, "main", 0)
		s.far(w(api.Li, 1, 0, 0), 0, "d", 0).far(w(api.La, 2, 0, 0), 0, "c", 0).far(w(api.Li, 3, 0, 0), 0, "c", 0).far(w(api.La, 4, 0, 0), 0, "d", 0)
		s.entry(0, "d", 0).entry(0, "c", 0).far(w(api.Jz, 5, 0, 0), 0, "c", 0)
		return s.branch(w(api.Brn, 6, 0, 0), "c")
	}
	giver := func() *source {
		return new(source).data(5, 6).datum("d").data(7).nops(2).label("c").nops(1)
	}
	li, la := w(api.Li, 1, 0, 0), w(api.La, 2, 0, 0)
	checkLink(t, "behind", api.Image{
		Entry: 2048,
		Data:  []uint32{5, 2063, 2048, 5, 6, 7},
		Code: []uint32{
			li, 5, la, 2063, w(api.Li, 3, 0, 0), 2063, w(api.La, 4, 0, 0), 5, 5, 2063, w(api.Jz, 5, 0, 0), 2063, w(api.Brn, 6, 0, 3),
			w(api.Nop, 0, 0, 0), w(api.Nop, 0, 0, 0), w(api.Nop, 0, 0, 0),
		},
		DataRefs: []int{1, 2},
		Places:   []int{3, 5, 9, 11},
		Starts:   []int{0, 2, 4, 6, 10, 12, 13, 14, 15},
	}, user(), giver())
	checkLink(t, "ahead", api.Image{
		Entry: 2051,
		Data:  []uint32{5, 6, 7, 2, 2050, 2051},
		Code: []uint32{
			w(api.Nop, 0, 0, 0), w(api.Nop, 0, 0, 0), w(api.Nop, 0, 0, 0),
			li, 2, la, 2050, w(api.Li, 3, 0, 0), 2050, w(api.La, 4, 0, 0), 2, 2, 2050, w(api.Jz, 5, 0, 0), 2050, w(api.Brn, 6, 0, 256-13),
		},
		DataRefs: []int{4, 5},
		Places:   []int{6, 8, 12, 14},
		Starts:   []int{0, 1, 2, 3, 5, 7, 9, 13, 15},
	}, giver(), user())
}

// P13.2: symbols that are not Global are each object's own, be they of one name, or of one that another has for all.
func TestP13_2Own(t *testing.T) {
	a := start().nops(1).own("x").far(w(api.Jmp, 0, 0, 0), 0, "x", 0)
	b := new(source).data(1).ownDatum("x").data(2).far(w(api.Li, 1, 0, 0), 0, "x", 0)
	c := new(source).nops(1).label("x").far(w(api.Jmp, 0, 0, 0), 0, "x", 0)
	d := new(source).far(w(api.Jmp, 0, 0, 0), 0, "x", 0).own("main").nops(1)
	i := linked(t, a, b, c, d)
	want := []uint32{
		w(api.Nop, 0, 0, 0), w(api.Jmp, 0, 0, 0), 2049, w(api.Li, 1, 0, 0), 1,
		w(api.Nop, 0, 0, 0), w(api.Jmp, 0, 0, 0), 2054, w(api.Jmp, 0, 0, 0), 2054, w(api.Nop, 0, 0, 0),
	}
	if !slices.Equal(i.Code, want) || i.Entry != 2048 {
		t.Errorf("%s", differ("Code", i.Code, want))
	}
}

// P13.2: Entry is main's, whichever object has it, wherever, be it Absent in others.
func TestP13_2Entry(t *testing.T) {
	user := func() *source { return new(source).nops(3).far(w(api.Call, 0, 0, 0), 0, "main", 0) }
	for _, x := range []struct {
		what string
		want uint32
		l    []*source
	}{
		{"the first word", 2048, []*source{start().nops(2)}},
		{"the last word", 2050, []*source{new(source).nops(2).label("main").nops(1)}},
		{"Absent ahead", 2053, []*source{user(), start().nops(2)}},
		{"Absent behind", 2048, []*source{start().nops(2), user()}},
		{"behind what is long", 2178, []*source{new(source).branch(w(api.Br, 0, 0, 0), "main").nops(128).label("main").nops(1)}},
		{"own ahead", 2049, []*source{new(source).own("main").nops(1), start().nops(1)}},
		{"data of one's own ahead", 2048, []*source{new(source).ownDatum("main"), start().nops(1)}},
	} {
		if i := linked(t, x.l...); i.Entry != x.want {
			t.Errorf("%s: Entry is %d, want %d", x.what, i.Entry, x.want)
		}
	}
}

// P13.2: what is not repaired is as it was: words of data and of tables that look like instructions, second words,
// operands.
func TestP13_2AsItWas(t *testing.T) {
	s := start().data(w(api.Br, 0, 0, 0), hc, 0xffffffff, 2048)
	s.table(w(api.Br, 0, 0, 9), w(api.Jmp, 0, 0, 0), hc, 0xffffffff, w(api.Hc, 1, 2, 3)).two(w(api.Li, 1, 0, 0), w(api.Br, 0, 0, 4)).two(w(api.Li, 15, 0, 0), hc)
	want := api.Image{Entry: 2048 + 9, Starts: []int{5, 7}}
	s.label("main")
	for op := range 256 {
		for _, word := range []uint32{w(op, 1, 2, 3), w(op, 1, 2, 0), w(op, 1, 0, 0), w(op, 0, 0, 0)} {
			if in, is := instruction(word); is && !repaired(in.Op) {
				want.Starts = append(want.Starts, len(s.Code))
				s.one(word)
			}
		}
	}
	want.Data, want.Code = slices.Clone(s.Data), slices.Clone(s.Code)
	checkLink(t, "all that is not repaired", want, s)
}
