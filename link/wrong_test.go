package link_test

import (
	"math"
	"slices"
	"strconv"
	"testing"

	"facade/api"
	"facade/link"
)

// P13.1: no object: no main.
func TestP13_1NoObject(t *testing.T) {
	checkRefused(t, "no object", nil, at(api.ErrNone))
	checkRefused(t, "an empty list", []api.Object{}, at(api.ErrNone))
	checkPatchedRefused(t, "no object", nil, at(api.ErrNone))
	if _, err := link.Link(); err != api.ErrNone {
		t.Errorf("no argument: %v", err)
	}
}

// P13.1: MaxObjs objects link, one more doesn't, whatever is wrong with them.
func TestP13_1MaxObjs(t *testing.T) {
	l := []api.Object{start().nops(1).Object}
	for len(l) < api.MaxObjs {
		l = append(l, new(source).data(uint32(len(l))).nops(1).Object)
	}
	i, err := link.Link(l...)
	if err != nil || len(i.Code) != 16 || len(i.Data) != 15 || i.Data[14] != 15 {
		t.Errorf("%d objects: %v, %v", len(l), i, err)
	}
	l = append(l, api.Object{})
	checkRefused(t, "one more", l, at(api.ErrMany))
	checkPatchedRefused(t, "one more", l, at(api.ErrMany))
	l[0].Map = []byte{3}
	checkRefused(t, "one more, and one that is wrong", l, at(api.ErrMany))
	checkRefused(t, "one less, and one that is wrong", l[:16], at(api.ErrMap, 0, 0))
	checkRefused(t, "a hundred", make([]api.Object, 100), at(api.ErrMany))
	checkRefused(t, "sixteen empty ones", make([]api.Object, 16), at(api.ErrNone))
}

// mixed is a valid object that has some of all; it needs "far".
func mixed() *source {
	s := new(source).label("top").data(1).ownDatum("d").ref(2, "top", 0).ref(3, "d", 2)
	s.one(w(api.Halt, 1, 0, 0)).branch(w(api.Br, 0, 0, 0), "top").far(w(api.La, 1, 0, 0), 5, "d", 1)
	return s.call(w(api.Cli, 0, 0, 0)).entry(9, "d", 0).far(w(api.Jmp, 0, 0, 0), 0, "far", 0).two(w(api.Li, 1, 0, 0), 0)
}

// wrongs are objects that obj.Valid refuses, and how.
func wrongs() map[string]struct {
	o    api.Object
	want fault
} {
	out := map[string]struct {
		o    api.Object
		want fault
	}{}
	add := func(what string, want fault, do func(s *source)) {
		s := mixed()
		do(s)
		out[what] = struct {
			o    api.Object
			want fault
		}{s.Object, want}
	}
	add("too much Data", at(api.ErrMany), func(s *source) { s.Data = make([]uint32, 2049) })
	add("too much Code", at(api.ErrMany), func(s *source) { s.table(make([]uint32, 2038)...) })
	add("too many relocations of Data", at(api.ErrMany), func(s *source) { s.DRels = make([]api.Reloc, 1025) })
	add("too many relocations of Code", at(api.ErrMany), func(s *source) { s.CRels = make([]api.Reloc, 1025) })
	add("too many symbols", at(api.ErrMany), func(s *source) { s.Syms = make([]api.Sym, 257) })
	add("no Map", at(api.ErrMap), func(s *source) { s.Map = nil })
	add("Map is too short", at(api.ErrMap), func(s *source) { s.Map = s.Map[:10] })
	add("Map is too long", at(api.ErrMap), func(s *source) { s.Map = append(s.Map, 1) })
	add("no Code", at(api.ErrMap), func(s *source) { s.Code = nil })
	add("no instruction", at(api.ErrOp, 0), func(s *source) { s.Code[0] = 0 })
	add("an operand that there is not", at(api.ErrOp, 9), func(s *source) { s.Code[9] |= 1 })
	add("no second word", at(api.ErrMap, 2), func(s *source) { s.Map[3] = 2 })
	add("two words, the last", at(api.ErrMap, 9), func(s *source) { s.Code, s.Map = s.Code[:10], s.Map[:10] })
	add("a second word of one", at(api.ErrMap, 1), func(s *source) { s.Map[1] = 0 })
	add("a second word first", at(api.ErrMap, 0), func(s *source) { s.Map[0] = 0 })
	add("what is no mark", at(api.ErrMap, 6), func(s *source) { s.Map[6] = 3 })
	add("no name", at(api.ErrRange, 1), func(s *source) { s.Syms[1].Name = "" })
	add("a long name", at(api.ErrRange, 2), func(s *source) { s.Syms[2].Name = "123456789012345678901234567890123" })
	add("a name that was there", at(api.ErrTwice, 2), func(s *source) { s.Syms[2].Name = "d" })
	add("a symbol nowhere", at(api.ErrRange, 0), func(s *source) { s.Syms[0].In = 4 })
	add("a symbol behind data", at(api.ErrRange, 1), func(s *source) { s.Syms[1].Value = 3 })
	add("a symbol in a second word", at(api.ErrRange, 0), func(s *source) { s.Syms[0].Value = 3 })
	add("an Absent one of its own", at(api.ErrRange, 2), func(s *source) { s.Syms[2].Global = false })
	add("a relocation of no Data", at(api.ErrRange, 1), func(s *source) { s.DRels[1].At = 3 })
	add("a Branch of Data", at(api.ErrRange, 0), func(s *source) { s.DRels[0].Kind = api.Branch })
	add("Add to what is not in data", at(api.ErrShape, 0), func(s *source) { s.DRels[0].Add = 1 })
	add("a relocation of no Code", at(api.ErrRange, 3), func(s *source) { s.CRels[3].At = 11 })
	add("a relocation far ahead of Code", at(api.ErrRange, 0), func(s *source) { s.CRels[0].At = math.MinInt })
	add("a relocation far behind Code", at(api.ErrRange, 3), func(s *source) { s.CRels[3].At = math.MaxInt })
	add("relocations that don't rise", at(api.ErrRange, 1), func(s *source) { s.CRels[1].At = 1 })
	add("a relocation by no symbol", at(api.ErrRange, 2), func(s *source) { s.CRels[2].Sym = 3 })
	add("much to add", at(api.ErrRange, 1), func(s *source) { s.CRels[1].Add = 65537 })
	add("a branch into data", at(api.ErrShape, 0), func(s *source) { s.CRels[0].Sym = 1 })
	add("a jump into data", at(api.ErrShape, 3), func(s *source) { s.CRels[3].Sym = 1 })
	add("a branch that isn't repaired", at(api.ErrNone, 1), func(s *source) { s.CRels = s.CRels[1:] })
	add("a jump that isn't repaired", at(api.ErrNone, 7), func(s *source) { s.CRels = s.CRels[:3] })
	return out
}

// P13.1: what obj.Valid refuses, alone, ahead of others and behind others: its error, with the object's place around it.
func TestP13_1Valid(t *testing.T) {
	main, far := start().nops(1).Object, new(source).label("far").nops(1).Object
	if _, err := link.Link(main, mixed().Object, far); err != nil {
		t.Fatalf("what is right doesn't link: %v", err)
	}
	for what, x := range wrongs() {
		for k, l := range [][]api.Object{{x.o}, {main, x.o}, {main, far, x.o, far}} {
			want := at(x.want.err, slices.Insert(slices.Clone(x.want.places), 0, k)...)
			checkRefused(t, what+", object "+strconv.Itoa(k), l, want)
		}
		checkRefused(t, what+", twice", []api.Object{main, x.o, x.o}, at(x.want.err, slices.Insert(slices.Clone(x.want.places), 0, 1)...))
	}
}

// P13.1: two objects' Global symbols of one name.
func TestP13_1Twice(t *testing.T) {
	code, data := new(source).nops(2).label("x").nops(1), new(source).datum("x").data(1)
	main := start().nops(1)
	for _, x := range []struct {
		what  string
		place int
		l     []*source
	}{
		{"in code", 2, []*source{main, code, code}},
		{"in data", 2, []*source{main, data, data}},
		{"in code, in data", 1, []*source{code, data, main}},
		{"in data, in code", 1, []*source{data, code, main}},
		{"far apart", 3, []*source{code, main, new(source), data}},
		{"three", 1, []*source{code, code, code}},
		{"main", 1, []*source{main, main}},
		{"main in data", 1, []*source{main, new(source).datum("main")}},
		{"the object itself", 1, []*source{code, code}},
	} {
		checkRefused(t, x.what, objects(x.l...), at(api.ErrTwice, x.place))
	}
}

// P13.1: names that may be those of others: an Absent one's, and one's that is not Global.
func TestP13_1NotTwice(t *testing.T) {
	main := start().nops(1)
	has := new(source).label("x").nops(1)
	needs := new(source).far(w(api.Call, 0, 0, 0), 0, "x", 0)
	own, ownData := new(source).own("x").nops(1), new(source).ownDatum("x")
	for _, l := range [][]*source{
		{main, has, needs}, {main, needs, has}, {needs, has, main, needs}, {main, has, own}, {main, own, has}, {main, own, ownData, own},
		{own, ownData, has, needs, own, main}, {start().nops(1), new(source).own("main").nops(1), new(source).ownDatum("main")},
	} {
		if _, err := link.Link(objects(l...)...); err != nil {
			t.Errorf("%v: %v", objects(l...), err)
		}
	}
}

// P13.1: an Absent name that nobody has.
func TestP13_1Absent(t *testing.T) {
	main := start().nops(1)
	needs, asks := new(source).far(w(api.Call, 0, 0, 0), 0, "x", 0), new(source)
	asks.sym("x") // nothing is repaired by it
	for _, x := range []struct {
		what  string
		place int
		l     []*source
	}{
		{"alone", 0, []*source{needs}},
		{"nobody has it", 1, []*source{main, needs}},
		{"nobody has it, and nobody uses it", 1, []*source{main, asks, main}[:2]},
		{"one has it for itself, in code", 1, []*source{main, needs, new(source).own("x").nops(1)}},
		{"one has it for itself, in data", 2, []*source{main, new(source).ownDatum("x"), asks}},
		{"others need it too", 1, []*source{main, needs, asks, needs}},
		{"main", 0, []*source{new(source).far(w(api.Jmp, 0, 0, 0), 0, "main", 0)}},
		{"a name that begins so", 1, []*source{main, needs, new(source).label("xx").label("X").label("x ").nops(1)}},
	} {
		checkRefused(t, x.what, objects(x.l...), at(api.ErrNone, x.place))
	}
	has := new(source).datum("y").label("x").nops(1)
	for _, l := range [][]*source{{main, needs, has}, {has, main, needs}, {asks, has, main}, {main, needs, asks, has, needs}} {
		if _, err := link.Link(objects(l...)...); err != nil {
			t.Errorf("one has it: %v", err)
		}
	}
}

// P13.1: a jump to an Absent symbol that another one has in data; what is no jump may have its address.
func TestP13_1Shape(t *testing.T) {
	has := new(source).data(1).datum("x").data(2)
	main := start().nops(1)
	for word := range branches() {
		user := new(source).nops(3).branch(word, "x")
		checkRefused(t, "a branch", objects(main, user, has), at(api.ErrShape, 1))
		checkRefused(t, "a branch, behind", objects(has, main, user), at(api.ErrShape, 2))
	}
	for _, op := range []int{api.Jmp, api.Jz, api.Jn, api.Call} {
		user := new(source).table(1).far(w(op, 0, 0, 0), 0, "x", 0)
		checkRefused(t, "a jump", objects(user, main, has), at(api.ErrShape, 0))
		checkRefused(t, "a jump, behind", objects(has, main, user), at(api.ErrShape, 2))
	}
	// nothing of this is a jump's, though words of it are like one
	jmp := w(api.Jmp, 0, 0, 0)
	fine := new(source).ref(jmp, "x", 0).ref(jmp, "x", 0).far(w(api.Li, 1, 0, 0), jmp, "x", 0).far(w(api.La, 1, 0, 0), jmp, "x", 0)
	fine.entry(jmp, "x", 0).entry(jmp, "x", 0).table(jmp).entry(0, "x", 0).two(w(api.Li, 1, 0, 0), jmp).entry(0, "x", 0)
	i := linked(t, main, fine, has)
	want := []uint32{w(api.Nop, 0, 0, 0), w(api.Li, 1, 0, 0), 3, w(api.La, 1, 0, 0), 3, 3, 3, jmp, 3, w(api.Li, 1, 0, 0), jmp, 3}
	if !slices.Equal(i.Code, want) || len(i.Places)+len(i.DataRefs) > 0 || !slices.Equal(i.Data, []uint32{3, 3, 1, 2}) {
		t.Errorf("what is no jump: %v", i)
	}
}

// P13.1: no main in code that is Global.
func TestP13_1Main(t *testing.T) {
	for what, s := range map[string]*source{
		"no symbol":        new(source).nops(1),
		"in data":          new(source).datum("main").nops(1),
		"not Global":       new(source).own("main").nops(1),
		"in its own data":  new(source).ownDatum("main").nops(1),
		"another name":     new(source).label("Main").label("main2").label("mai").nops(1),
		"an empty object":  new(source),
		"nothing but data": new(source).data(1, 2),
	} {
		checkRefused(t, what, objects(s), at(api.ErrNone))
		checkRefused(t, what+", more", objects(new(source).nops(1), s, new(source).own("main").nops(1)), at(api.ErrNone))
	}
	absent := new(source)
	absent.sym("main")
	checkRefused(t, "Absent", objects(absent), at(api.ErrNone, 0))
	checkRefused(t, "Absent, and in data", objects(absent, new(source).datum("main")), at(api.ErrNone))
}

// P13.1: all Data is at most MaxWords.
func TestP13_1Data(t *testing.T) {
	for _, x := range []struct {
		words []int
		fits  bool
	}{
		{[]int{2048}, true}, {[]int{2048, 0}, true}, {[]int{0, 2048}, true}, {[]int{1024, 1024}, true}, {slices.Repeat([]int{128}, 15), true}, {[]int{2047, 1}, true},
		{[]int{2048, 1}, false}, {[]int{1, 2048}, false}, {[]int{1024, 0, 1025}, false}, {slices.Repeat([]int{2048}, 15), false}, {slices.Repeat([]int{137}, 15), false},
	} {
		l := []*source{start().nops(1)}
		n := 0
		for _, words := range x.words {
			l = append(l, new(source).data(make([]uint32, words)...))
			n += words
		}
		if !x.fits {
			checkRefused(t, strconv.Itoa(n)+" words of data", objects(l...), at(api.ErrMany))
		} else if i := linked(t, l...); len(i.Data) != n {
			t.Errorf("%d words of data: %d", n, len(i.Data))
		}
	}
}

// P13.1: all Code is at most MaxWords, as it is laid out.
func TestP13_1Code(t *testing.T) {
	for _, x := range []struct {
		words []int
		fits  bool
	}{
		{[]int{2047}, true}, {[]int{0, 2047}, true}, {[]int{1000, 1047}, true}, {slices.Repeat([]int{136}, 15), true},
		{[]int{2048}, false}, {[]int{2047, 1}, false}, {[]int{1000, 1048}, false}, {slices.Repeat([]int{2048}, 15), false}, {slices.Repeat([]int{280}, 15), false},
		{[]int{2048, 2048}, false},
	} {
		l := []*source{start().nops(1)}
		n := 1
		for _, words := range x.words {
			l = append(l, new(source).table(make([]uint32, words)...))
			n += words
		}
		if !x.fits {
			checkRefused(t, strconv.Itoa(n)+" words of code", objects(l...), at(api.ErrMany))
		} else if i := linked(t, l...); len(i.Code) != n {
			t.Errorf("%d words of code: %d", n, len(i.Code))
		}
	}
}

// P13.1: where a long branch alone makes Code too long.
func TestP13_1LongCode(t *testing.T) {
	code := func(words int, long bool) *source {
		s := start().nops(1).branch(w(api.Br, 0, 0, 0), "main").nops(words - 3)
		if long {
			s = s.own("end").nops(1)
			s.CRels[0].Sym = s.sym("end")
			return s
		}
		return s.nops(1)
	}
	if i := linked(t, code(2048, false)); len(i.Code) != 2048 {
		t.Errorf("a short one: %d words", len(i.Code))
	}
	if i := linked(t, code(2047, true)); len(i.Code) != 2048 {
		t.Errorf("a long one, one word less: %d words", len(i.Code))
	}
	checkRefused(t, "a long one", objects(code(2048, true)), at(api.ErrMany))
	checkRefused(t, "a long one, by another object's word", objects(code(2047, true), new(source).nops(1)), at(api.ErrMany))

	// of so many that go to one place all but the nearest become long
	many := func(s *source, n int) *source {
		for range n {
			s.branch(w(api.Brz, 1, 0, 0), "main")
		}
		return s
	}
	i := linked(t, many(start(), 1024), many(new(source), 64))
	if len(i.Code) != 129+2*(1088-129) || len(i.Places) != 1088-129 {
		t.Errorf("%d words, %d long ones", len(i.Code), len(i.Places))
	}
	checkRefused(t, "many long ones", objects(many(start(), 1024), many(new(source), 65)), at(api.ErrMany))
}
