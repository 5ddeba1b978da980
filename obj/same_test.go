package obj_test

import (
	"bytes"
	"math"
	"testing"

	"facade/api"
	"facade/obj"
)

// checkSame holds what Same says of two objects, either way round.
func checkSame(t *testing.T, what string, a, b api.Object, want bool) {
	t.Helper()
	if obj.Same(a, b) != want || obj.Same(b, a) != want {
		t.Errorf("%s: Same is %v, %v, want %v", what, obj.Same(a, b), obj.Same(b, a), want)
	}
}

// change is something that is done to a part of full, or of an object that is not valid and has as many of all.
type change struct {
	what string
	do   func(o *api.Object)
}

// changes are one of each part by itself.
func changes() []change {
	return []change{
		{"the first of Data", func(o *api.Object) { o.Data[0]++ }},
		{"the last of Data, its highest bit", func(o *api.Object) { o.Data[3] ^= 1 << 31 }},
		{"the first of Code", func(o *api.Object) { o.Code[0]++ }},
		{"the last of Code", func(o *api.Object) { o.Code[12]-- }},
		{"the first of Map", func(o *api.Object) { o.Map[0]++ }},
		{"the last of Map", func(o *api.Object) { o.Map[12] ^= 128 }},
		{"At of Data", func(o *api.Object) { o.DRels[0].At = -1 }},
		{"Kind of Data", func(o *api.Object) { o.DRels[1].Kind += 1 << 8 }},
		{"Sym of Data", func(o *api.Object) { o.DRels[2].Sym++ }},
		{"Add of Data", func(o *api.Object) { o.DRels[2].Add ^= math.MinInt }},
		{"At of Code", func(o *api.Object) { o.CRels[0].At++ }},
		{"Kind of Code", func(o *api.Object) { o.CRels[1].Kind-- }},
		{"Sym of Code", func(o *api.Object) { o.CRels[5].Sym += 1 << 16 }},
		{"Add of Code", func(o *api.Object) { o.CRels[6].Add++ }},
		{"the first Name", func(o *api.Object) { o.Syms[0].Name += "\x00" }},
		{"the last Name", func(o *api.Object) { o.Syms[2].Name = "Far" }},
		{"no Name", func(o *api.Object) { o.Syms[1].Name = "" }},
		{"In", func(o *api.Object) { o.Syms[0].In += 1 << 32 }},
		{"Value", func(o *api.Object) { o.Syms[1].Value = -2 }},
		{"Global", func(o *api.Object) { o.Syms[2].Global = !o.Syms[2].Global }},
		{"less Data", func(o *api.Object) { o.Data = o.Data[:3] }},
		{"more Data", func(o *api.Object) { o.Data = append(o.Data, 0) }},
		{"no Data", func(o *api.Object) { o.Data = nil }},
		{"less Code", func(o *api.Object) { o.Code = o.Code[1:] }},
		{"more Code", func(o *api.Object) { o.Code = append(o.Code, 0) }},
		{"less Map", func(o *api.Object) { o.Map = o.Map[:12] }},
		{"more Map", func(o *api.Object) { o.Map = append(o.Map, 0) }},
		{"no DRels", func(o *api.Object) { o.DRels = nil }},
		{"more DRels", func(o *api.Object) { o.DRels = append(o.DRels, api.Reloc{}) }},
		{"less CRels", func(o *api.Object) { o.CRels = o.CRels[:6] }},
		{"more CRels", func(o *api.Object) { o.CRels = append(o.CRels, api.Reloc{}) }},
		{"less Syms", func(o *api.Object) { o.Syms = o.Syms[:2] }},
		{"more Syms", func(o *api.Object) { o.Syms = append(o.Syms, api.Sym{}) }},
		{"two Names change places", func(o *api.Object) { o.Syms[0].Name, o.Syms[1].Name = o.Syms[1].Name, o.Syms[0].Name }},
		{"Data is Code", func(o *api.Object) { o.Data, o.Code = o.Code, o.Data }},
		{"DRels are CRels", func(o *api.Object) { o.DRels, o.CRels = o.CRels, o.DRels }},
	}
}

// broken is full, with something in each part that Valid does not take.
func broken() api.Object {
	return changed(func(o *api.Object) {
		o.Code[3], o.Map[6], o.Map[12] = math.MaxUint32, 200, 0
		o.DRels[0], o.CRels[1] = api.Reloc{At: math.MinInt, Kind: -1, Sym: math.MaxInt, Add: 1 << 40}, api.Reloc{At: -5, Kind: 9}
		o.Syms[0], o.Syms[2].Name = api.Sym{Name: name(3, 90), In: -7, Value: math.MinInt}, "d"
	})
}

// P9.3: Same of any: of the same, whatever memory they stand in, and of those that are not in one part.
func TestP9_3Same(t *testing.T) {
	checkSame(t, "two empty ones", api.Object{}, api.Object{}, true)
	checkSame(t, "nothing and empty lists", api.Object{}, copied(api.Object{}), true)
	for _, of := range []func() api.Object{full, broken} {
		o := of()
		checkSame(t, "itself", o, o, true)
		checkSame(t, "the same", o, of(), true)
		checkSame(t, "a copy", o, copied(o), true)
		checkSame(t, "an empty one", o, api.Object{}, false)
		for _, x := range changes() {
			c := of()
			x.do(&c)
			checkSame(t, x.what, o, c, false)
		}
	}
	checkSame(t, "a valid one and one that isn't", full(), broken(), false)
	for _, x := range []api.Object{{Data: []uint32{0}}, {Code: []uint32{0}}, {Map: []byte{0}}, {DRels: make([]api.Reloc, 1)}, {CRels: make([]api.Reloc, 1)}, {Syms: make([]api.Sym, 1)}} {
		checkSame(t, "one of zeros", x, api.Object{}, false)
		checkSame(t, "one of zeros", x, copied(x), true)
	}
}

// P9.3: Same asks nothing of what lies behind the lists.
func TestP9_3SameBehindLists(t *testing.T) {
	a, b := full(), full()
	b.Data = append(b.Data, 99)[:4]
	b.Map = append(b.Map, 9)[:13]
	b.Syms = append(b.Syms, api.Sym{Name: "z"})[:3]
	checkSame(t, "with room behind", a, b, true)
}

// P9.3: Clone of any is the same; a change of each part of one leaves the other as it was.
func TestP9_3Clone(t *testing.T) {
	checkObject(t, "of an empty one", obj.Clone(api.Object{}), api.Object{})
	checkObject(t, "of empty lists", obj.Clone(copied(api.Object{})), api.Object{})
	for _, of := range []func() api.Object{full, broken} {
		o := of()
		checkObject(t, "a copy", obj.Clone(o), of())
		checkObject(t, "a copy of a copy", obj.Clone(obj.Clone(o)), of())
		for _, x := range changes() {
			o := of()
			c, d := obj.Clone(o), obj.Clone(o)
			x.do(&c)
			checkObject(t, "the copy changed: "+x.what, o, of())
			checkObject(t, "the copy changed, another copy: "+x.what, d, of())
			o = of()
			c = obj.Clone(o)
			x.do(&o)
			checkObject(t, "the first changed: "+x.what, c, of())
		}
	}
}

// room is an object whose lists have something behind their lengths.
func room() api.Object {
	o := full()
	o.Data, o.Code, o.Map = append(o.Data, 91, 92)[:4], append(o.Code, 93, 94)[:13], append(o.Map, 95, 96)[:13]
	o.DRels, o.CRels = append(o.DRels, api.Reloc{At: 97})[:3], append(o.CRels, api.Reloc{At: 98})[:7]
	o.Syms = append(o.Syms, api.Sym{Name: "behind"})[:3]
	return o
}

// grown is an object with one more of all.
func grown(o api.Object) api.Object {
	return api.Object{
		Data: append(o.Data, 1), Code: append(o.Code, 2), Map: append(o.Map, 3),
		DRels: append(o.DRels, api.Reloc{At: 4}), CRels: append(o.CRels, api.Reloc{At: 5}), Syms: append(o.Syms, api.Sym{Name: "six"}),
	}
}

// emptied is room, but that its lists are empty: all lies behind them.
func emptied() api.Object {
	o := room()
	return api.Object{Data: o.Data[:0], Code: o.Code[:0], Map: o.Map[:0], DRels: o.DRels[:0], CRels: o.CRels[:0], Syms: o.Syms[:0]}
}

// P9.3: what is put behind a list of a copy isn't seen behind one of the first, nor the other way round.
func TestP9_3CloneGrows(t *testing.T) {
	for _, of := range []func() api.Object{room, emptied} {
		o := of()
		c := grown(obj.Clone(o))
		checkObject(t, "behind the first", behind(o), behind(of()))
		grown(o)
		checkObject(t, "the copy", c, grown(of()))
	}
}

// behind is what lies one behind the lists of room's.
func behind(o api.Object) api.Object {
	return api.Object{
		Data: o.Data[:len(o.Data)+1], Code: o.Code[:len(o.Code)+1], Map: o.Map[:len(o.Map)+1],
		DRels: o.DRels[:len(o.DRels)+1], CRels: o.CRels[:len(o.CRels)+1], Syms: o.Syms[:len(o.Syms)+1],
	}
}

// P9.3: Read of Bytes is the Same, and Bytes of that just these bytes.
func TestP9_3Back(t *testing.T) {
	for what, o := range map[string]api.Object{
		"an empty one": {}, "one with all in it": full(), "one with room behind": room(),
		"all at their limits": sized(2048, 2048, 1024, 1024, 256), "data": sized(5, 0, 0, 0, 0), "symbols": sized(0, 0, 0, 0, 9),
		"bytes of any name": {Syms: []api.Sym{{Name: "\x00\xff\n\xc3", In: api.InData}}},
	} {
		b := mustBytes(t, o)
		p := mustRead(t, b)
		checkSame(t, what, o, p, true)
		checkObject(t, what, p, o)
		if again := mustBytes(t, p); !bytes.Equal(again, b) {
			t.Errorf("%s: Bytes of what was Read: %v, want %v", what, again, b)
		}
	}
}

// P9.3: each byte of an object's made each other one: it is an object of just these bytes, or an error.
func TestP9_3EachByte(t *testing.T) {
	b := fullBytes()
	for at, was := range b {
		for x := range 256 {
			b[at] = byte(x)
			checkAny(t, b)
		}
		b[at] = was
	}
}

// checkAny holds what Read says of any bytes: an object whose bytes they are, or an error of those that the chapter
// names and nothing.
func checkAny(t *testing.T, b []byte) {
	t.Helper()
	o, err := obj.Read(b)
	if err == nil {
		if again := mustBytes(t, o); !bytes.Equal(again, b) {
			t.Errorf("Bytes of what was Read: %v, want %v", again, b)
		}
		return
	}
	checkObject(t, "beside an error", o, api.Object{})
	if at, is := err.(*api.At); is {
		err = at.Err
	}
	switch err {
	case api.ErrMany, api.ErrMap, api.ErrOp, api.ErrRange, api.ErrTwice, api.ErrShape, api.ErrNone, api.ErrEnd:
	default:
		t.Errorf("Read: %v is none of the chapter's", err)
	}
}
