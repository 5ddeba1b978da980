package site_test

import (
	"math"
	"slices"
	"testing"

	"facade/api"
	"facade/obj"
	"facade/site"
)

// P10.1: Starts of objects that Valid does not take: of each word of Code what Map has, whatever the word is.
func TestP10_1StartsOfAny(t *testing.T) {
	words := []uint32{0, w(api.Hc, 0, 0, 0), w(api.Li, 1, 0, 0), math.MaxUint32, w(api.Nop, 0, 0, 1)}
	for _, x := range []struct {
		what  string
		words []uint32
		marks []byte
		want  []int
	}{
		{"no instruction's words", words, []byte{1, 1, 1, 1, 1}, []int{0, 1, 2, 3, 4}},
		{"second words of nothing", words, []byte{0, 0, 1, 1, 0}, []int{2, 3}},
		{"what is no mark", words, []byte{3, 1, 255, 129, 17}, []int{1}},
		{"no first words", words, []byte{0, 2, 3, 2, 0}, nil},
		{"Map is too short", words, []byte{1, 2, 1}, []int{0, 2}},
		{"Map is too long", words[:3], []byte{2, 1, 1, 1, 1}, []int{1, 2}},
		{"no Map", words, nil, nil},
		{"no Code", nil, []byte{1, 1}, nil},
	} {
		checkStarts(t, x.what, api.Object{Code: x.words, Map: x.marks}, x.want)
	}
}

// P10.1: Starts of each Map of five words.
func TestP10_1StartsOfEachMap(t *testing.T) {
	for n := range 4 * 4 * 4 * 4 * 4 {
		o := api.Object{Code: make([]uint32, 5)}
		var want []int
		for at := range 5 {
			m := byte(n >> (2 * at) & 3)
			o.Map = append(o.Map, m)
			if m == 1 {
				want = append(want, at)
			}
		}
		checkStarts(t, "any Map", o, want)
	}
}

// P10.1: Starts has no bound, and asks for nothing but Code and Map.
func TestP10_1StartsOfMany(t *testing.T) {
	o := api.Object{Code: make([]uint32, 70000), Map: slices.Repeat([]byte{1}, 70000), Syms: make([]api.Sym, 300), CRels: []api.Reloc{{At: -1}}}
	l := site.Starts(o)
	if len(l) != 70000 {
		t.Fatalf("%d starts", len(l))
	}
	for k, at := range l {
		if at != k {
			t.Fatalf("start %d is %d", k, at)
		}
	}
}

// mixed is a valid object, with sites, of each kind of all that one can have.
func mixed() api.Object {
	return api.Object{
		Data: []uint32{1, 2},
		Code: []uint32{w(api.Halt, 1, 0, 0), w(api.Br, 0, 0, 0), w(api.La, 1, 0, 0), 5, w(api.Cli, 0, 0, 0), 9, w(api.Jmp, 0, 0, 0), 0, w(api.Out, 2, 0, 0)},
		Map:  []byte{1, 1, 1, 0, 1, 2, 1, 0, 1},
		DRels: []api.Reloc{
			{At: 0, Kind: api.Word, Sym: 0}, {At: 1, Kind: api.Word, Sym: 1, Add: 2},
		},
		CRels: []api.Reloc{
			{At: 1, Kind: api.Branch, Sym: 2}, {At: 3, Kind: api.Word, Sym: 1, Add: 1}, {At: 5, Kind: api.Word, Sym: 0}, {At: 7, Kind: api.Word, Sym: 0},
		},
		Syms: []api.Sym{{Name: "main", In: api.InCode, Global: true}, {Name: "d", In: api.InData, Value: 1}, {Name: "far", In: api.Absent, Global: true}},
	}
}

// checkRefused holds that Sites and Text answer an error and nothing beside it, change nothing of the object, and that
// Starts goes by Map all the same.
func checkRefused(t *testing.T, what string, o api.Object, pos int, want error) {
	t.Helper()
	was := obj.Clone(o)
	l, err := site.Sites(o)
	checkError(t, what+": Sites", err, pos, want)
	s, bad := site.Text(o)
	checkError(t, what+": Text", bad, pos, want)
	if len(l) > 0 || len(s) > 0 {
		t.Errorf("%s: %v and %q beside an error", what, l, s)
	}
	var starts []int
	for at, m := range o.Map {
		if m == 1 && at < len(o.Code) {
			starts = append(starts, at)
		}
	}
	checkStarts(t, what, o, starts)
	if !obj.Same(o, was) {
		t.Errorf("%s: the object is %v, was %v", what, o, was)
	}
}

// checkError holds an error against the one that it has to be: a sentinel itself, or an At just around it.
func checkError(t *testing.T, what string, err error, pos int, want error) {
	t.Helper()
	got, at := err, alone
	if e, is := err.(*api.At); is {
		got, at = e.Err, e.Pos
	}
	if got != want || at != pos {
		t.Errorf("%s: error %v, want %v at %d", what, err, want, pos)
	}
}

// P10.1: Valid's error of each kind, with its place, ahead of and behind where sites are.
func TestP10_1Refused(t *testing.T) {
	for _, x := range []struct {
		what string
		pos  int
		err  error
		do   func(o *api.Object)
	}{
		{"too much Data", alone, api.ErrMany, func(o *api.Object) { o.Data = make([]uint32, 2049) }},
		{"too much Code", alone, api.ErrMany, func(o *api.Object) {
			o.Code, o.Map = append(o.Code, make([]uint32, 2040)...), append(o.Map, slices.Repeat([]byte{2}, 2040)...)
		}},
		{"too many relocations of Data", alone, api.ErrMany, func(o *api.Object) { o.DRels = make([]api.Reloc, 1025) }},
		{"too many relocations of Code", alone, api.ErrMany, func(o *api.Object) { o.CRels = make([]api.Reloc, 1025) }},
		{"too many symbols", alone, api.ErrMany, func(o *api.Object) { o.Syms = make([]api.Sym, 257) }},
		{"no Map", alone, api.ErrMap, func(o *api.Object) { o.Map = nil }},
		{"Map is too short", alone, api.ErrMap, func(o *api.Object) { o.Map = o.Map[:8] }},
		{"Map is too long", alone, api.ErrMap, func(o *api.Object) { o.Map = append(o.Map, 1) }},
		{"no Code", alone, api.ErrMap, func(o *api.Object) { o.Code = nil }},
		{"no instruction first", 0, api.ErrOp, func(o *api.Object) { o.Code[0] = 0 }},
		{"no instruction last", 8, api.ErrOp, func(o *api.Object) { o.Code[8] |= 1 }},
		{"an Hc", 4, api.ErrOp, func(o *api.Object) { o.Code[4] = w(api.Hc, 0, 0, 0) }},
		{"a second word of one", 4, api.ErrMap, func(o *api.Object) { o.Map[4] = 0 }},
		{"no second word", 2, api.ErrMap, func(o *api.Object) { o.Map[3] = 2 }},
		{"two words, the last", 8, api.ErrMap, func(o *api.Object) { o.Code[8] = w(api.Li, 1, 0, 0) }},
		{"what is no mark", 5, api.ErrMap, func(o *api.Object) { o.Map[5] = 3 }},
		{"no name", 1, api.ErrRange, func(o *api.Object) { o.Syms[1].Name = "" }},
		{"a name that was there", 2, api.ErrTwice, func(o *api.Object) { o.Syms[2].Name = "d" }},
		{"a symbol nowhere", 0, api.ErrRange, func(o *api.Object) { o.Syms[0].Value = 3 }},
		{"a relocation of no Data", 1, api.ErrRange, func(o *api.Object) { o.DRels[1].At = 2 }},
		{"Add of no Data's symbol", 0, api.ErrShape, func(o *api.Object) { o.DRels[0].Add = 1 }},
		{"relocations that don't rise", 2, api.ErrRange, func(o *api.Object) { o.CRels[2].At = 3 }},
		{"a relocation of a site", 0, api.ErrShape, func(o *api.Object) { o.CRels[0] = api.Reloc{At: 0, Kind: api.Word} }},
		{"a branch that isn't repaired", 1, api.ErrNone, func(o *api.Object) { o.CRels = o.CRels[1:] }},
		{"a jump that isn't repaired", 6, api.ErrNone, func(o *api.Object) { o.CRels = o.CRels[:3] }},
	} {
		o := mixed()
		x.do(&o)
		checkRefused(t, x.what, o, x.pos, x.err)
	}
	if l, err := site.Sites(mixed()); err != nil || len(l) != 3 {
		t.Errorf("of the one that is valid: %v, %v", l, err)
	}
}

// P10.1, P0.4: what lies behind the lengths of an object's lists counts for nothing, and stays.
func TestP10_1BehindLists(t *testing.T) {
	code := []uint32{w(api.Cli, 0, 0, 0), w(api.Halt, 1, 0, 0), w(api.Sti, 0, 0, 0)}
	marks := []byte{1, 1, 1}
	for n := range code {
		o := api.Object{Code: code[:n], Map: marks[:n]}
		p := obj.Clone(o)
		l, err := site.Sites(o)
		want, _ := site.Sites(p)
		s, bad := site.Text(o)
		lines, _ := site.Text(p)
		if !slices.Equal(l, want) || len(l) != n || err != nil || !slices.Equal(s, lines) || len(s) != n || bad != nil {
			t.Errorf("%d words: %v, %v, %q, %v", n, l, err, s, bad)
		}
		checkStarts(t, "Map is longer than Code", api.Object{Code: code[:n], Map: marks}, []int{0, 1, 2}[:n])
		checkStarts(t, "Code is longer than Map", api.Object{Code: code, Map: marks[:n]}, []int{0, 1, 2}[:n])
	}
	if !slices.Equal(code, []uint32{w(api.Cli, 0, 0, 0), w(api.Halt, 1, 0, 0), w(api.Sti, 0, 0, 0)}) || string(marks) != "\x01\x01\x01" {
		t.Error("what lies behind the lists was written")
	}
}

// fill writes into all of a list, its spare room too.
func fill[T any](l []T, x T) {
	for k := range l[:cap(l)] {
		l[:cap(l)][k] = x
	}
}

// P0.4: what is handed out is new memory: whatever is written into it, no other answer and no object shows it.
func TestP10_1New(t *testing.T) {
	o, want := laid(pieces()...)
	was := obj.Clone(o)
	answers := func() told {
		l, err := site.Sites(o)
		s, bad := site.Text(o)
		if err != nil || bad != nil {
			t.Fatal(err, bad)
		}
		return told{site.Starts(o), l, s}
	}
	a, b := answers(), answers()
	fill(a.starts, -7)
	fill(a.sites, site.Site{At: -7})
	fill(a.lines, "written")
	for _, x := range []told{b, answers()} {
		if !slices.Equal(x.starts, want.starts) || !slices.Equal(x.sites, want.sites) || !slices.Equal(x.lines, want.lines) {
			t.Errorf("what is written into an answer is seen in another one: %v", x)
		}
	}
	if !obj.Same(o, was) {
		t.Error("what is written into an answer is seen in the object")
	}
}

// P0.5: what is answered hangs on the object as it is now.
func TestP10_1Now(t *testing.T) {
	o, want := laid(sites()...)
	check(t, "as it was", o, want)
	p, other := laid(innocuous()[:17]...)
	copy(o.Code, p.Code)
	o.CRels = p.CRels
	check(t, "as it is now", o, other)
}
