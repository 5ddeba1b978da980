package link_test

import (
	"errors"
	"slices"
	"strconv"
	"testing"

	"facade/api"
	"facade/isa"
	"facade/link"
	"facade/obj"
	"facade/rewrite"
)

const hc = 0x60000000 // the word of a call of the monitor

// w is an instruction's word.
func w(op, a, b, c int) uint32 { return uint32(op)<<24 | uint32(a)<<16 | uint32(b)<<8 | uint32(c) }

// source is an object that is written part by part. What it names and nobody has put anywhere is Absent.
type source struct{ api.Object }

// sym is the number of a symbol.
func (s *source) sym(name string) int {
	for k, x := range s.Syms {
		if x.Name == name {
			return k
		}
	}
	s.Syms = append(s.Syms, api.Sym{Name: name, In: api.Absent, Global: true})
	return len(s.Syms) - 1
}

// put has a symbol stand somewhere.
func (s *source) put(name string, in, value int, global bool) *source {
	s.Syms[s.sym(name)] = api.Sym{Name: name, In: in, Value: value, Global: global}
	return s
}

// label is a Global symbol at the next word of code, own one that is not Global.
func (s *source) label(name string) *source { return s.put(name, api.InCode, len(s.Code), true) }
func (s *source) own(name string) *source   { return s.put(name, api.InCode, len(s.Code), false) }

// datum is a Global symbol at the next word of data, ownDatum one that is not Global.
func (s *source) datum(name string) *source    { return s.put(name, api.InData, len(s.Data), true) }
func (s *source) ownDatum(name string) *source { return s.put(name, api.InData, len(s.Data), false) }

// data are words of data, ref one that is repaired.
func (s *source) data(l ...uint32) *source {
	s.Data = append(s.Data, l...)
	return s
}
func (s *source) ref(word uint32, name string, add int) *source {
	s.DRels = append(s.DRels, api.Reloc{At: len(s.Data), Kind: api.Word, Sym: s.sym(name), Add: add})
	return s.data(word)
}

// one are instructions of one word, two is one of two.
func (s *source) one(l ...uint32) *source {
	s.Code, s.Map = append(s.Code, l...), append(s.Map, slices.Repeat([]byte{1}, len(l))...)
	return s
}
func (s *source) two(word, imm uint32) *source {
	s.Code, s.Map = append(s.Code, word, imm), append(s.Map, 1, 0)
	return s
}

// nops are so many words that do nothing.
func (s *source) nops(n int) *source {
	return s.one(slices.Repeat([]uint32{w(api.Nop, 0, 0, 0)}, n)...)
}

// branch is one to a symbol.
func (s *source) branch(word uint32, name string) *source {
	s.CRels = append(s.CRels, api.Reloc{At: len(s.Code), Kind: api.Branch, Sym: s.sym(name)})
	return s.one(word)
}

// far is an instruction whose second word is repaired.
func (s *source) far(word, imm uint32, name string, add int) *source {
	s.CRels = append(s.CRels, api.Reloc{At: len(s.Code) + 1, Kind: api.Word, Sym: s.sym(name), Add: add})
	return s.two(word, imm)
}

// table are words of a table, entry one that is repaired.
func (s *source) table(l ...uint32) *source {
	s.Code, s.Map = append(s.Code, l...), append(s.Map, slices.Repeat([]byte{2}, len(l))...)
	return s
}
func (s *source) entry(word uint32, name string, add int) *source {
	s.CRels = append(s.CRels, api.Reloc{At: len(s.Code), Kind: api.Word, Sym: s.sym(name), Add: add})
	return s.table(word)
}

// start is a new source, that begins with main.
func start() *source { return new(source).label("main") }

// objects are the objects of sources.
func objects(l ...*source) []api.Object {
	var out []api.Object
	for _, s := range l {
		out = append(out, s.Object)
	}
	return out
}

// clones are copies of objects.
func clones(l []api.Object) []api.Object {
	var out []api.Object
	for _, o := range l {
		out = append(out, obj.Clone(o))
	}
	return out
}

// sameAll tells whether objects are the same ones.
func sameAll(a, b []api.Object) bool { return slices.EqualFunc(a, b, obj.Same) }

// sameImage tells whether two images are the same.
func sameImage(a, b api.Image) bool {
	return a.Entry == b.Entry && slices.Equal(a.Data, b.Data) && slices.Equal(a.Code, b.Code) &&
		slices.Equal(a.DataRefs, b.DataRefs) && slices.Equal(a.Places, b.Places) && slices.Equal(a.Starts, b.Starts)
}

// checkImage holds an image against the one that it has to be.
func checkImage(t *testing.T, what string, got api.Image, err error, want api.Image) {
	t.Helper()
	if err != nil {
		t.Errorf("%s: error %v", what, err)
	} else if !sameImage(got, want) {
		t.Errorf("%s:\n%s", what, difference(got, want))
	}
}

// difference tells the parts in which two images differ.
func difference(got, want api.Image) string {
	var text string
	if got.Entry != want.Entry {
		text += "Entry " + strconv.Itoa(int(got.Entry)) + ", want " + strconv.Itoa(int(want.Entry)) + "\n"
	}
	return text + differ("Data", got.Data, want.Data) + differ("Code", got.Code, want.Code) +
		differ("DataRefs", got.DataRefs, want.DataRefs) + differ("Places", got.Places, want.Places) + differ("Starts", got.Starts, want.Starts)
}

// differ tells the first place in which two lists differ.
func differ[T int | uint32](name string, got, want []T) string {
	for k := range max(len(got), len(want)) {
		switch {
		case k >= len(got) || k >= len(want):
			return name + " has " + strconv.Itoa(len(got)) + ", want " + strconv.Itoa(len(want)) + "\n"
		case got[k] != want[k]:
			return name + " at " + strconv.Itoa(k) + " is 0x" + strconv.FormatInt(int64(got[k]), 16) + ", want 0x" + strconv.FormatInt(int64(want[k]), 16) + "\n"
		}
	}
	return ""
}

// linked is the image of sources that link.
func linked(t *testing.T, l ...*source) api.Image {
	t.Helper()
	i, err := link.Link(objects(l...)...)
	if err != nil {
		t.Fatal(err)
	}
	return i
}

// checkLink holds Link of sources against the image that it has to be, and that it changes nothing of them.
func checkLink(t *testing.T, what string, want api.Image, l ...*source) {
	t.Helper()
	o := objects(l...)
	was := clones(o)
	i, err := link.Link(o...)
	checkImage(t, what, i, err, want)
	if !sameAll(o, was) {
		t.Errorf("%s: an object was changed", what)
	}
}

// fault is an error as it is told: the places that it has around it, from the outermost on, and the sentinel.
type fault struct {
	err    error
	places []int
}

// at is a fault at places.
func at(err error, places ...int) fault { return fault{err, places} }

// checkError holds an error against the one that it has to be.
func checkError(t *testing.T, what string, err error, want fault) {
	t.Helper()
	got := fault{err: err}
	for {
		a, is := got.err.(*api.At)
		if !is {
			break
		}
		got = fault{a.Err, append(got.places, a.Pos)}
	}
	if got.err != want.err || !slices.Equal(got.places, want.places) {
		t.Errorf("%s: error %v, want %v at %v", what, err, want.err, want.places)
	}
	if want.err != nil && !errors.Is(err, want.err) {
		t.Errorf("%s: error %v is no %v", what, err, want.err)
	}
}

// checkRefused holds that Link, Where and Map answer an error and nothing beside it, and change nothing.
func checkRefused(t *testing.T, what string, l []api.Object, want fault) {
	t.Helper()
	was := clones(l)
	i, err := link.Link(l...)
	checkError(t, what+": Link", err, want)
	at, err := link.Where(l, "main")
	checkError(t, what+": Where", err, want)
	a, b, err := link.Map(l...)
	checkError(t, what+": Map", err, want)
	if !sameImage(i, api.Image{}) || at != 0 || len(a)+len(b) > 0 {
		t.Errorf("%s: %v, %d, %v, %v beside an error", what, i, at, a, b)
	}
	if !sameAll(l, was) {
		t.Errorf("%s: an object was changed", what)
	}
}

// checkPatchedRefused holds that Patched answers an error and nothing beside it, and changes nothing.
func checkPatchedRefused(t *testing.T, what string, l []api.Object, want fault) {
	t.Helper()
	was := clones(l)
	i, err := link.Patched(l...)
	checkError(t, what+": Patched", err, want)
	if !sameImage(i, api.Image{}) {
		t.Errorf("%s: %v beside an error", what, i)
	}
	if !sameAll(l, was) {
		t.Errorf("%s: an object was changed", what)
	}
}

// sites are words of all the instructions that have to be rewritten, with operands wherever they have some.
func sites() []uint32 {
	var l []uint32
	for op := range 256 {
		for _, word := range []uint32{w(op, 3, 4, 0), w(op, 3, 0, 0), w(op, 0, 0, 0)} {
			in, is := isa.Of(word, 0)
			if c := isa.Tables().Class(in.Op); is && (c == isa.Trapping || c == isa.Silent) {
				l = append(l, word)
				break
			}
		}
	}
	return l
}

// call is a call of the monitor as the rewriter makes it.
func (s *source) call(word uint32) *source { return s.two(hc, rewrite.Mark|word) }
