package obj_test

import (
	"slices"
	"strconv"
	"testing"

	"facade/api"
	"facade/isa"
	"facade/obj"
)

// P9.1: an empty object is valid, and so is one that has all in it.
func TestP9_1Taken(t *testing.T) {
	checkTaken(t, "an empty one", api.Object{})
	checkTaken(t, "one of empty lists", copied(api.Object{}))
	checkTaken(t, "one with all in it", full())
}

// sized is a valid object with so many of each.
func sized(data, words, drels, crels, syms int) api.Object {
	o := api.Object{Data: make([]uint32, data), Code: make([]uint32, words), Map: slices.Repeat([]byte{2}, words)}
	for k := range drels {
		o.DRels = append(o.DRels, api.Reloc{At: k, Kind: api.Word})
	}
	for k := range crels {
		o.CRels = append(o.CRels, api.Reloc{At: k, Kind: api.Word})
	}
	for k := range syms {
		o.Syms = append(o.Syms, api.Sym{Name: name(k, 3), In: api.InData})
	}
	return o
}

// P9.1: each number may be at its limit; one above it is ErrMany, alone.
func TestP9_1Sizes(t *testing.T) {
	checkTaken(t, "all at their limits", sized(2048, 2048, 1024, 1024, 256))
	for what, o := range map[string]api.Object{
		"Data":  sized(2049, 2048, 1024, 1024, 256),
		"Code":  sized(2048, 2049, 1024, 1024, 256),
		"DRels": sized(2048, 2048, 1025, 1024, 256),
		"CRels": sized(2048, 2048, 1024, 1025, 256),
		"Syms":  sized(2048, 2048, 1024, 1024, 257),
	} {
		checkValid(t, what, o, alone, api.ErrMany)
		o.Map = o.Map[:1]
		checkValid(t, what+", and Map is too short", o, alone, api.ErrMany)
		o.Map = append(o.Map, make([]byte, 3000)...)
		checkValid(t, what+", and Map is too long", o, alone, api.ErrMany)
	}
	checkValid(t, "all above", sized(9000, 9000, 9000, 9000, 9000), alone, api.ErrMany)
	checkValid(t, "above, and no valid part", api.Object{Code: make([]uint32, 2049), Map: make([]byte, 2049), Syms: make([]api.Sym, 9)}, alone, api.ErrMany)
}

// P9.1: a Map that is not as long as Code is ErrMap, alone, whatever else is wrong.
func TestP9_1MapLength(t *testing.T) {
	for _, n := range []int{0, 1, 12, 14, 15, 2048, 2049, 70000} {
		o := changed(func(o *api.Object) { o.Map = append(o.Map, make([]byte, 70000)...)[:n] })
		checkValid(t, "Map of "+strconv.Itoa(n), o, alone, api.ErrMap)
		o.Code[0], o.Syms[0].Name, o.DRels[0].At, o.CRels = 0, "", -1, nil
		checkValid(t, "Map of "+strconv.Itoa(n)+", and more is wrong", o, alone, api.ErrMap)
	}
	checkValid(t, "Map without Code", api.Object{Map: []byte{1}}, alone, api.ErrMap)
	checkValid(t, "Code without Map", api.Object{Code: []uint32{w(api.Nop, 0, 0, 0)}}, alone, api.ErrMap)
}

// P9.1: of each operation that a byte can have: it may begin an instruction or not, with a second word or without.
func TestP9_1Operations(t *testing.T) {
	x := isa.Tables()
	for op := range 256 {
		what := "operation " + strconv.Itoa(op)
		one, two := code("12", w(op, 0, 0, 0), 0), code("10", w(op, 0, 0, 0), 0)
		last, twice := code("1", w(op, 0, 0, 0)), code("11", w(op, 0, 0, 0), w(api.Nop, 0, 0, 0))
		switch {
		case x.Class(op) == 0 || op == api.Hc:
			for _, o := range []api.Object{one, two, last, twice} {
				checkValid(t, what, o, 0, api.ErrOp)
			}
		case x.Two(op):
			for _, o := range []api.Object{one, last, twice} {
				checkValid(t, what+" without its second word", o, 0, api.ErrMap)
			}
			checkValid(t, what, repaired(two), alone, nil)
		default:
			for _, o := range []api.Object{one, last, twice} {
				checkTaken(t, what, repaired(o))
			}
			checkValid(t, what+" with a second word", two, 1, api.ErrMap)
		}
	}
}

// repaired is an object with relocations of all in Code that may be repaired, by an Absent symbol.
func repaired(o api.Object) api.Object {
	o.Syms = append(o.Syms, api.Sym{Name: "far", In: api.Absent, Global: true})
	for at, m := range o.Map {
		switch op := int(o.Code[at] >> 24); {
		case m == 1 && (op == api.Br || op == api.Brz || op == api.Brn):
			o.CRels = append(o.CRels, api.Reloc{At: at, Kind: api.Branch, Sym: len(o.Syms) - 1})
		case m == 0:
			o.CRels = append(o.CRels, api.Reloc{At: at, Kind: api.Word, Sym: len(o.Syms) - 1})
		}
	}
	return o
}

// P9.1: words that are no instruction where one has to begin, and what may and may not stand behind one.
func TestP9_1Words(t *testing.T) {
	const ones = 0xffffffff
	nop, li := w(api.Nop, 0, 0, 0), w(api.Li, 3, 0, 0)
	for _, x := range []struct {
		what string
		o    api.Object
		pos  int
		err  error
	}{
		{"0", code("11", nop, 0), 1, api.ErrOp},
		{"all ones", code("1", ones), 0, api.ErrOp},
		{"a register too many", code("1", w(api.Mov, 1, 16, 0)), 0, api.ErrOp},
		{"an operand where none is", code("1", w(api.Nop, 0, 0, 1)), 0, api.ErrOp},
		{"two words, an operand where none is", code("10", w(api.Li, 0, 1, 0), 0), 0, api.ErrOp},
		{"the same, the last", code("1", w(api.Li, 0, 1, 0)), 0, api.ErrOp},
		{"hc, its word is Mark's", code("110", nop, w(api.Hc, 0, 0, 0), 0x80000000|w(api.Cli, 0, 0, 0)), 1, api.ErrOp},
		{"two words, any second", code("10", li, ones), alone, nil},
		{"two words, the second one an instruction's", code("10", li, w(api.Hc, 0, 0, 0)), alone, nil},
		{"two words, twice", code("1010", li, li, li, li), alone, nil},
		{"two words, the last of more", code("11", nop, li), 1, api.ErrMap},
		{"two words, Map 1 behind", code("111", nop, li, nop), 1, api.ErrMap},
		{"two words, a table behind", code("12", li, 0), 0, api.ErrMap},
		{"two words, Map 3 behind", code("13", li, 0), 0, api.ErrMap},
		{"Map 0 first of all", code("01", li, nop), 0, api.ErrMap},
		{"Map 0 first of all, and behind", code("00", li, li), 0, api.ErrMap},
		{"Map 0 behind one word", code("10", nop, li), 1, api.ErrMap},
		{"Map 0 behind a second word", code("100", li, li, li), 2, api.ErrMap},
		{"Map 0 behind a table", code("1020", li, 0, li, 0), 3, api.ErrMap},
		{"Map 0 behind a table that is first of all", code("20", li, 0), 1, api.ErrMap},
		{"tables of any words", code("2222", ones, 0, w(api.Hc, 0, 0, 0), li), alone, nil},
		{"Map 3", code("13", nop, nop), 1, api.ErrMap},
		{"Map 3 of no instruction", code("3", 0), 0, api.ErrMap},
		{"Map 4 first of all", code("4", nop), 0, api.ErrMap},
		{"Map 128", api.Object{Code: []uint32{nop}, Map: []byte{128}}, 0, api.ErrMap},
		{"Map 129", api.Object{Code: []uint32{nop}, Map: []byte{129}}, 0, api.ErrMap},
		{"Map 255", api.Object{Code: []uint32{nop}, Map: []byte{255}}, 0, api.ErrMap},
		{"the first of two is told: words", code("111", nop, 0, li), 1, api.ErrOp},
		{"the first of two is told: the map", code("1101", nop, nop, 0, 0), 2, api.ErrMap},
		{"two words without a second, ahead of one that is none", code("11", li, 0), 0, api.ErrMap},
	} {
		checkValid(t, x.what, x.o, x.pos, x.err)
	}
}

// P9.1: where each part has something wrong, it is told of the part that comes first.
func TestP9_1FirstPart(t *testing.T) {
	o := full()
	for _, x := range []struct {
		what string
		do   func()
		pos  int
		err  error
	}{
		{"a Branch that lacks", func() { o.CRels = slices.Delete(o.CRels, 1, 2) }, 2, api.ErrNone},
		{"and a relocation of Code", func() { o.CRels[5].Sym = 1 }, 5, api.ErrShape},
		{"and its number", func() { o.CRels[5].Sym = 3 }, 5, api.ErrRange},
		{"and one ahead", func() { o.CRels[0].Kind = api.Branch }, 0, api.ErrShape},
		{"and one of Data", func() { o.DRels[2].Add = 1 }, 2, api.ErrShape},
		{"and its number", func() { o.DRels[2].Kind = api.Branch }, 2, api.ErrRange},
		{"and one ahead", func() { o.DRels[1].Sym, o.DRels[1].Add = 0, 1 }, 1, api.ErrShape},
		{"and where a symbol stands", func() { o.Syms[2].Value = 1 }, 2, api.ErrRange},
		{"and its name", func() { o.Syms[2].Name = "d" }, 2, api.ErrTwice},
		{"and how long that is", func() { o.Syms[1].Name, o.Syms[2].Name = name(0, 33), name(0, 33) }, 1, api.ErrRange},
		{"and the last word", func() { o.Map[12] = 3 }, 12, api.ErrMap},
		{"and a word ahead", func() { o.Code[3] = 0 }, 3, api.ErrOp},
		{"and the length of Map", func() { o.Map = append(o.Map, 2) }, alone, api.ErrMap},
		{"and too many", func() { o.Syms = make([]api.Sym, 257) }, alone, api.ErrMany},
	} {
		x.do()
		checkValid(t, x.what, o, x.pos, x.err)
	}
}

// P9.1: what lies behind the lengths of an object's lists counts for nothing, and stays.
func TestP9_1BehindLists(t *testing.T) {
	long := full()
	long.Code = append(long.Code, w(api.Nop, 0, 0, 0))
	long.Map = append(long.Map, 0)
	for n := range long.Code {
		o := api.Object{Code: long.Code[:n], Map: long.Map[:n]}
		exact := copied(o)
		err, want := obj.Valid(o), obj.Valid(exact)
		if (err == nil) != (want == nil) || err != nil && err.Error() != want.Error() {
			t.Errorf("%d words: error %v, want %v", n, err, want)
		}
	}
	o := changed(func(o *api.Object) {
		o.Data, o.Syms, o.DRels, o.CRels = o.Data[:2], o.Syms[:1], o.DRels[:1], o.CRels[:0]
		o.Code, o.Map = o.Code[3:4], o.Map[3:4]
		o.Syms[0].Value = 0
	})
	checkTaken(t, "one of shorter lists", o)
	if want := full(); !slices.Equal(o.Syms[:3][1:], want.Syms[1:]) || !slices.Equal(o.CRels[:7], want.CRels) || !slices.Equal(o.Data[:4], want.Data) {
		t.Error("what lies behind the lists was written")
	}
}
