package obj_test

import (
	"math"
	"strings"
	"testing"

	"facade/api"
)

// checkSymbol holds what Valid says of full with that symbol as its second one, which no jump goes by.
func checkSymbol(t *testing.T, what string, s api.Sym, want error) {
	t.Helper()
	o := changed(func(o *api.Object) { o.Syms[1] = s })
	if s.In != api.InData { // what is added to it goes by the fourth one then
		o.Syms = append(o.Syms, api.Sym{Name: "other", In: api.InData})
		o.DRels[1].Sym, o.CRels[0].Sym, o.CRels[3].Sym = 3, 3, 3
	}
	pos := 1
	if want == nil {
		pos = alone
	}
	checkValid(t, what, o, pos, want)
}

// P9.1: a name has 1 to 32 bytes, whatever they are.
func TestP9_1Names(t *testing.T) {
	for _, x := range []struct {
		what, name string
		err        error
	}{
		{"empty", "", api.ErrRange},
		{"one byte", "x", nil},
		{"a byte 0", "\x00", nil},
		{"no rune's bytes", "\xff\xfe", nil},
		{"a space", " ", nil},
		{"32 bytes", strings.Repeat("n", 32), nil},
		{"33 bytes", strings.Repeat("n", 33), api.ErrRange},
		{"11 runes, 33 bytes", strings.Repeat("\u20ac", 11), api.ErrRange},
		{"16 runes, 32 bytes", strings.Repeat("\u00e9", 16), nil},
		{"256 bytes", strings.Repeat("n", 256), api.ErrRange},
		{"65,537 bytes", strings.Repeat("n", 65537), api.ErrRange},
	} {
		checkSymbol(t, x.what, api.Sym{Name: x.name, In: api.InData}, x.err)
	}
}

// P9.1: a name that was there is ErrTwice, wherever the two stand; one that is nearly so isn't.
func TestP9_1NamesTwice(t *testing.T) {
	checkSymbol(t, "the one ahead's", api.Sym{Name: "main", In: api.InData}, api.ErrTwice)
	checkSymbol(t, "the one behind's is told there", api.Sym{Name: "other one", In: api.InData}, nil)
	checkValid(t, "the one two ahead's", changed(func(o *api.Object) { o.Syms[2].Name = "main" }), 2, api.ErrTwice)
	checkValid(t, "all the same", changed(func(o *api.Object) { o.Syms[1].Name, o.Syms[2].Name = "main", "main" }), 1, api.ErrTwice)
	for _, s := range []string{"Main", "mai", "main ", "main\x00", "nain"} {
		checkSymbol(t, "a name like main", api.Sym{Name: s, In: api.InData}, nil)
	}
	checkSymbol(t, "and it stands nowhere", api.Sym{Name: "main", In: 9}, api.ErrTwice)
	long := name(1, 33)
	o := changed(func(o *api.Object) { o.Syms[0].Name, o.Syms[1].Name = long, long })
	checkValid(t, "two that are too long", o, 0, api.ErrRange)
	for _, first := range []int{0, 17, 254} {
		o := sized(0, 0, 0, 0, 256)
		o.Syms[255].Name = o.Syms[first].Name
		checkValid(t, "the last of 256", o, 255, api.ErrTwice)
	}
}

// P9.1: where a symbol may stand.
func TestP9_1Stands(t *testing.T) {
	for _, in := range []int{math.MinInt, -1, 0, 4, 255, 256 + api.InData, 1<<32 + api.InData, math.MaxInt} {
		checkSymbol(t, "In is none", api.Sym{Name: "s", In: in}, api.ErrRange)
		checkSymbol(t, "In is none, Global", api.Sym{Name: "s", In: in, Global: true}, api.ErrRange)
	}
	for _, global := range []bool{false, true} {
		for _, v := range []int{math.MinInt, -1 << 32, -1, 0, 1, 3, 4, 5, 2048, 1 << 32, math.MaxInt} {
			var want error
			if v < 0 || v > 3 {
				want = api.ErrRange
			}
			checkSymbol(t, "InData", api.Sym{Name: "s", In: api.InData, Value: v, Global: global}, want)
		}
		for _, v := range []int{math.MinInt, -1 << 32, -1, 0, 1, 2, 3, 4, 5, 6, 7, 8, 9, 10, 11, 12, 13, 14, 1<<32 + 2, math.MaxInt} {
			var want error
			if v < 0 || v > 12 || full().Map[v] != 1 {
				want = api.ErrRange
			}
			checkSymbol(t, "InCode", api.Sym{Name: "s", In: api.InCode, Value: v, Global: global}, want)
		}
		for _, v := range []int{math.MinInt, -1, 0, 1, 3, 1 << 32, math.MaxInt} {
			var want error
			if v != 0 || !global {
				want = api.ErrRange
			}
			checkSymbol(t, "Absent", api.Sym{Name: "s", In: api.Absent, Value: v, Global: global}, want)
		}
	}
}

// P9.1: InData at 0 may be where there is no Data; InCode at 0 may not where there is no Code.
func TestP9_1StandsInNothing(t *testing.T) {
	for _, x := range []struct {
		what string
		s    api.Sym
		pos  int
		err  error
	}{
		{"InData 0", api.Sym{Name: "s", In: api.InData}, alone, nil},
		{"InData 1", api.Sym{Name: "s", In: api.InData, Value: 1}, 0, api.ErrRange},
		{"InData -1", api.Sym{Name: "s", In: api.InData, Value: -1}, 0, api.ErrRange},
		{"InCode 0", api.Sym{Name: "s", In: api.InCode}, 0, api.ErrRange},
		{"Absent", api.Sym{Name: "s", In: api.Absent, Global: true}, alone, nil},
	} {
		checkValid(t, "of nothing: "+x.what, api.Object{Syms: []api.Sym{x.s}}, x.pos, x.err)
	}
	one := api.Object{Data: []uint32{1}, Syms: []api.Sym{{Name: "s", In: api.InData}}}
	checkTaken(t, "of one word", one)
	one.Syms[0].Value = 1
	checkValid(t, "behind the one word", one, 0, api.ErrRange)
}
