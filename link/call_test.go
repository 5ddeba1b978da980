package link_test

import (
	"math"
	"slices"
	"strconv"
	"testing"

	"facade/api"
	"facade/link"
	"facade/rewrite"
)

// P13.1, P13.2: a call of the monitor as the rewriter makes it, of each instruction that it rewrites: it links, and is
// as it was.
func TestP13_1Call(t *testing.T) {
	l := sites()
	if len(l) != 17 {
		t.Fatalf("%d sites", len(l))
	}
	for _, word := range l {
		want := api.Image{Entry: 2048, Code: []uint32{hc, 0x80000000 | word}, Starts: []int{0}}
		checkLink(t, "a call", want, start().call(word))
	}
	s := start().branch(w(api.Br, 0, 0, 0), "end")
	want := api.Image{Entry: 2048, Code: []uint32{w(api.Br, 0, 0, 35)}, Starts: []int{0}}
	for k, word := range l {
		s.call(word)
		want.Code = append(want.Code, hc, 0x80000000|word)
		want.Starts = append(want.Starts, 1+2*k)
	}
	want.Code, want.Starts = append(want.Code, w(api.Cli, 0, 0, 0)), append(want.Starts, 35)
	checkLink(t, "all calls", want, s.label("end").one(w(api.Cli, 0, 0, 0)))
}

// P13.1: a call of another make is as any object's.
func TestP13_1NoCall(t *testing.T) {
	halt := uint32(0x80000000) | w(api.Halt, 1, 0, 0)
	for what, s := range map[string]*source{
		"no mark":                        start().two(hc, w(api.Halt, 1, 0, 0)),
		"a number":                       start().two(hc, 1),
		"0":                              start().two(hc, 0),
		"nothing but a mark":             start().two(hc, rewrite.Mark),
		"an innocuous one":               start().two(hc, rewrite.Mark|w(api.Nop, 0, 0, 0)),
		"one of two words":               start().two(hc, rewrite.Mark|w(api.Li, 1, 0, 0)),
		"a call":                         start().two(hc, rewrite.Mark|hc),
		"an operand out of range":        start().two(hc, rewrite.Mark|w(api.Halt, 16, 0, 0)),
		"an operand that is too much":    start().two(hc, rewrite.Mark|w(api.Halt, 1, 1, 0)),
		"all bits":                       start().two(hc, math.MaxUint32),
		"the last word":                  start().one(hc),
		"no second word, an instruction": start().one(hc).nops(1),
		"a table behind it":              start().one(hc).table(halt),
		"an instruction behind it":       start().one(hc, halt),
		"operands":                       start().two(hc|1<<16, halt),
		"operands, the last":             start().two(hc|1, halt),
	} {
		for k, l := range [][]*source{{s}, {new(source).nops(1), new(source).call(w(api.Rti, 0, 0, 0)), s}} {
			checkRefused(t, what, objects(l...), at(api.ErrOp, 2*k, 0))
		}
		good := start().call(w(api.Rti, 0, 0, 0)).nops(1)
		good.Code, good.Map = append(good.Code, s.Code...), append(good.Map, s.Map...)
		checkRefused(t, what+", behind a good one", objects(good), at(api.ErrOp, 0, 3))
	}
	// a call that is as it has to be isn't the first word that's wrong
	checkRefused(t, "what is no instruction behind a call", objects(start().call(w(api.Rti, 0, 0, 0)).one(0)), at(api.ErrOp, 0, 2))
	checkRefused(t, "what is no mark behind a call", objects(start().call(w(api.Rti, 0, 0, 0)).put("x", api.Absent, 0, true).two(hc, 5)), at(api.ErrOp, 0, 2))
	third := start().call(w(api.Rti, 0, 0, 0)).table(0)
	third.Map[2] = 0
	checkRefused(t, "a third word of a call", objects(third), at(api.ErrMap, 0, 2))
}

// P13.1: a word that is like a call's, but none, is none.
func TestP13_1LikeCall(t *testing.T) {
	s := start().data(hc, 1).table(hc, 1).two(w(api.Li, 1, 0, 0), hc).nops(1).table(hc).nops(1).table(hc, 0x80000000|w(api.Halt, 1, 0, 0))
	want := api.Image{Entry: 2048 + 2, Data: []uint32{hc, 1}, Code: slices.Clone(s.Code), Starts: []int{2, 4, 6}}
	checkLink(t, "tables and a second word", want, s.put("main", api.InCode, 2, true))
}

// P13.1: all else that is wrong with an object that has calls is met as of any object: nothing repairs a call, nothing
// stands in its second word.
func TestP13_1CallElse(t *testing.T) {
	for _, x := range []struct {
		what string
		want fault
		do   func(s *source)
	}{
		{"a symbol in its second word", at(api.ErrRange, 0, 2), func(s *source) { s.put("x", api.InCode, 3, true) }},
		{"a Word of its second word", at(api.ErrShape, 0, 1), func(s *source) { s.CRels[1].At = 3 }},
		{"a Word of its second word, by data", at(api.ErrShape, 0, 1), func(s *source) { s.CRels[1] = api.Reloc{At: 3, Kind: api.Word, Sym: 1, Add: 1} }},
		{"a Word of its first word", at(api.ErrShape, 0, 1), func(s *source) { s.CRels[1].At = 2 }},
		{"a Branch of its first word", at(api.ErrShape, 0, 1), func(s *source) { s.CRels[1] = api.Reloc{At: 2, Kind: api.Branch} }},
		{"a Branch of its second word", at(api.ErrShape, 0, 1), func(s *source) { s.CRels[1] = api.Reloc{At: 3, Kind: api.Branch} }},
		{"no kind", at(api.ErrRange, 0, 1), func(s *source) { s.CRels[1] = api.Reloc{At: 3, Kind: 3} }},
		{"kind 0", at(api.ErrRange, 0, 1), func(s *source) { s.CRels[1] = api.Reloc{At: 3} }},
		{"no symbol", at(api.ErrRange, 0, 1), func(s *source) { s.CRels[1] = api.Reloc{At: 3, Kind: api.Word, Sym: 2} }},
		{"a symbol below 0", at(api.ErrRange, 0, 1), func(s *source) { s.CRels[1] = api.Reloc{At: 3, Kind: api.Word, Sym: -1} }},
		{"much to add", at(api.ErrRange, 0, 1), func(s *source) { s.CRels[1] = api.Reloc{At: 3, Kind: api.Word, Sym: 1, Add: 65537} }},
		{"one ahead that is wrong", at(api.ErrRange, 0, 0), func(s *source) { s.CRels[0].Add, s.CRels[1].At = 70000, 3 }},
		{"one behind that is wrong", at(api.ErrShape, 0, 1), func(s *source) { s.CRels[1].At, s.CRels[2].Add = 3, 70000 }},
		{"a relocation of data that is wrong", at(api.ErrRange, 0, 0), func(s *source) { s.CRels[1].At, s.DRels[0].Add = 3, 70000 }},
		{"a branch that is not repaired", at(api.ErrNone, 0, 0), func(s *source) { s.CRels = s.CRels[1:] }},
		{"a branch that is not repaired, and a call that is", at(api.ErrShape, 0, 0), func(s *source) { s.CRels = s.CRels[1:]; s.CRels[0].At = 3 }},
		{"a place that there is not", at(api.ErrRange, 0, 1), func(s *source) { s.CRels[1].At = math.MinInt }},
		{"a place behind all", at(api.ErrRange, 0, 1), func(s *source) { s.CRels[1].At = math.MaxInt }},
		{"no Map behind its first word", at(api.ErrMap), func(s *source) { s.Map = s.Map[:3] }},
		{"no Code behind its first word", at(api.ErrMap), func(s *source) { s.Code = s.Code[:3] }},
	} {
		s := start().ownDatum("d").data(5).ref(6, "d", 1).branch(w(api.Br, 0, 0, 0), "main").nops(1).call(w(api.Out, 4, 0, 0))
		s.far(w(api.Jz, 2, 0, 0), 0, "main", 0).far(w(api.Li, 3, 0, 0), 0, "d", 0).call(w(api.Sti, 0, 0, 0))
		linked(t, s)
		x.do(s)
		if len(x.want.places) == 0 {
			x.want.places = []int{0}
		}
		checkRefused(t, x.what, objects(s), x.want)
	}
}

// P13.1: what rewrite.Do has made links, alone and beside what it has not, and is as long as it may be.
func TestP13_1Rewritten(t *testing.T) {
	l := objects(first(), middle(), last())
	for bits := range 8 {
		var mix, plain []api.Object
		for k, o := range l {
			p, _, err := rewrite.Do(o)
			if err != nil {
				t.Fatal(err)
			}
			if bits>>k&1 == 1 {
				o = p
			}
			mix, plain = append(mix, o), append(plain, p)
		}
		i, err := link.Link(mix...)
		if err != nil {
			t.Fatalf("rewritten %d: %v", bits, err)
		}
		want, err := link.Patched(l...)
		if bits == 7 {
			checkImage(t, "all rewritten", i, err, want)
		}
		if sites := bits >> 2 * 2; len(i.Code) != 24+sites {
			t.Errorf("rewritten %d: %d words", bits, len(i.Code))
		}
		_, err = link.Patched(mix...)
		if bits>>2 == 0 {
			checkError(t, "rewritten again", err, at(nil))
		} else {
			checkPatchedRefused(t, "rewritten again "+strconv.Itoa(bits), mix, at(api.ErrOp, 2, 2))
		}
	}
	full := start()
	for range 1024 {
		full.call(w(api.Cli, 0, 0, 0))
	}
	if i := linked(t, full); len(i.Code) != 2048 || len(i.Starts) != 1024 {
		t.Errorf("%d words", len(i.Code))
	}
}
