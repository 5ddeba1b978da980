package obj_test

import (
	"math"
	"slices"
	"strconv"
	"testing"

	"facade/api"
)

// far are numbers that are no place of anything, though some are when they are cut.
func far() []int {
	return []int{math.MinInt, math.MinInt + 1, -1 << 32, 1 - 1<<32, -65537, -1, 1 << 31, 1 << 32, 1<<32 + 1, math.MaxInt}
}

// farAdds are numbers that may not be added, whatever to.
func farAdds() []int {
	return []int{math.MinInt, -1 << 32, 1 - 1<<32, -65538, -65537, 65537, 65538, 1 << 31, 1 << 32, 1<<32 + 1, math.MaxInt}
}

// P9.1: At of a relocation of Data is a word of Data, above the one ahead's.
func TestP9_1DRelsAt(t *testing.T) {
	for _, at := range append(far(), 4, 5) {
		checkValid(t, "no word of Data", changed(func(o *api.Object) { o.DRels[2].At = at }), 2, api.ErrRange)
		checkValid(t, "no word of Data", changed(func(o *api.Object) { o.DRels = []api.Reloc{{At: at, Kind: api.Word}} }), 0, api.ErrRange)
	}
	for _, at := range []int{0, 1, 2} {
		checkValid(t, "not above the one ahead", changed(func(o *api.Object) { o.DRels[2].At = at }), 2, api.ErrRange)
	}
	checkValid(t, "the same as the first one", changed(func(o *api.Object) { o.DRels[1].At = 0 }), 1, api.ErrRange)
	checkValid(t, "the first above all", changed(func(o *api.Object) { o.DRels[0].At = 3 }), 1, api.ErrRange)
	checkTaken(t, "just above the one ahead", changed(func(o *api.Object) { o.DRels[1].At = 1 }))
	o := sized(4, 0, 4, 0, 1)
	checkTaken(t, "each word", o)
	slices.Reverse(o.DRels)
	checkValid(t, "each word, falling", o, 1, api.ErrRange)
	o.Data = nil
	checkValid(t, "of no Data", o, 0, api.ErrRange)
}

// P9.1: Kind of a relocation of Data is Word, Sym is one, Add is in its bounds.
func TestP9_1DRelsNumbers(t *testing.T) {
	for _, n := range append(far(), 0, 2, 3, 256+1, 1<<32+1) {
		checkValid(t, "Kind", changed(func(o *api.Object) { o.DRels[1].Kind = n }), 1, api.ErrRange)
	}
	for _, n := range append(far(), 3, 4) {
		checkValid(t, "Sym", changed(func(o *api.Object) { o.DRels[1].Sym = n }), 1, api.ErrRange)
		checkValid(t, "Sym, and nothing is added", changed(func(o *api.Object) { o.DRels[0].Sym = n }), 0, api.ErrRange)
	}
	checkValid(t, "of no symbol", api.Object{Data: []uint32{1}, DRels: []api.Reloc{{Kind: api.Word}}}, 0, api.ErrRange)
	for _, n := range farAdds() {
		checkValid(t, "Add", changed(func(o *api.Object) { o.DRels[1].Add = n }), 1, api.ErrRange)
	}
	for _, n := range []int{-65536, -65535, -1, 0, 1, 65535, 65536} {
		checkTaken(t, "Add", changed(func(o *api.Object) { o.DRels[1].Add = n }))
	}
}

// P9.1: what is added to is InData; numbers come first.
func TestP9_1DRelsAdd(t *testing.T) {
	for _, n := range []int{-65536, -1, 1, 65536} {
		for _, sym := range []int{0, 2} {
			checkValid(t, "Add, not InData", changed(func(o *api.Object) { o.DRels[1].Sym, o.DRels[1].Add = sym, n }), 1, api.ErrShape)
		}
		checkValid(t, "Add, the first one", changed(func(o *api.Object) { o.DRels[0].Add = n }), 0, api.ErrShape)
		checkValid(t, "Add, the last one", changed(func(o *api.Object) { o.DRels[2].Add = n }), 2, api.ErrShape)
	}
	checkValid(t, "beyond its bounds, not InData", changed(func(o *api.Object) { o.DRels[0].Add = 65537 }), 0, api.ErrRange)
	checkValid(t, "and not above the one ahead", changed(func(o *api.Object) { o.DRels[2].Add, o.DRels[2].At = 1, 2 }), 2, api.ErrRange)
	checkValid(t, "and no Kind", changed(func(o *api.Object) { o.DRels[0].Add, o.DRels[0].Kind = 1, 0 }), 0, api.ErrRange)
}

// P9.1: At of a relocation of Code is a word of Code, above the one ahead's.
func TestP9_1CRelsAt(t *testing.T) {
	for _, at := range append(far(), 13, 14) {
		checkValid(t, "no word of Code", changed(func(o *api.Object) { o.CRels[6].At = at }), 6, api.ErrRange)
		checkValid(t, "no word of Code", changed(func(o *api.Object) { o.CRels[0].At = at }), 0, api.ErrRange)
	}
	for _, at := range []int{0, 2, 10} {
		checkValid(t, "not above the one ahead", changed(func(o *api.Object) { o.CRels[6].At = at }), 6, api.ErrRange)
	}
	checkValid(t, "the same as the first one", changed(func(o *api.Object) { o.CRels[1].At = 1 }), 1, api.ErrRange)
	checkValid(t, "falling", changed(func(o *api.Object) { slices.Reverse(o.CRels) }), 1, api.ErrRange)
	o := sized(0, 4, 0, 4, 1)
	checkTaken(t, "each word", o)
	o.Code, o.Map = nil, nil
	checkValid(t, "of no Code", o, 0, api.ErrRange)
}

// P9.1: Kind of a relocation of Code is Word or Branch, Sym is one, Add is in its bounds.
func TestP9_1CRelsNumbers(t *testing.T) {
	for _, n := range append(far(), 0, 3, 256+1, 1<<32+2) {
		checkValid(t, "Kind", changed(func(o *api.Object) { o.CRels[3].Kind = n }), 3, api.ErrRange)
		checkValid(t, "Kind", changed(func(o *api.Object) { o.CRels[1].Kind = n }), 1, api.ErrRange)
	}
	for _, n := range append(far(), 3, 4) {
		for k := range 7 {
			checkValid(t, "Sym", changed(func(o *api.Object) { o.CRels[k].Sym = n }), k, api.ErrRange)
		}
	}
	for _, n := range farAdds() {
		for k := range 7 {
			checkValid(t, "Add", changed(func(o *api.Object) { o.CRels[k].Add = n }), k, api.ErrRange)
		}
	}
	for _, n := range []int{-65536, -65535, -1, 0, 1, 65535, 65536} {
		checkTaken(t, "Add, of la and of a table", changed(func(o *api.Object) { o.CRels[0].Add, o.CRels[3].Add = n, n }))
		checkTaken(t, "Add, of li", changed(func(o *api.Object) { o.CRels[4].Sym, o.CRels[4].Add = 1, n }))
	}
}

// P9.1: what is added to is InData.
func TestP9_1CRelsAdd(t *testing.T) {
	for _, n := range []int{-65536, -1, 1, 65536} {
		for k := range 7 {
			for _, sym := range []int{0, 2} {
				o := changed(func(o *api.Object) { o.CRels[k].Sym, o.CRels[k].Add = sym, n })
				checkValid(t, "Add, not InData: "+strconv.Itoa(k), o, k, api.ErrShape)
			}
		}
	}
	for k := range 7 {
		for _, sym := range []int{0, 2} {
			checkTaken(t, "nothing is added", changed(func(o *api.Object) { o.CRels[k].Sym, o.CRels[k].Add = sym, 0 }))
		}
	}
}

// P9.1: an error of a number comes ahead of one of the shape, one of an earlier relocation ahead of both.
func TestP9_1CRelsFirst(t *testing.T) {
	both := changed(func(o *api.Object) { o.CRels[1].Add, o.CRels[1].Sym = 65537, 1 })
	checkValid(t, "a jump into data, Add beyond its bounds", both, 1, api.ErrRange)
	both.CRels[0].Kind = api.Branch
	checkValid(t, "the earlier one", both, 0, api.ErrShape)
	at := changed(func(o *api.Object) { o.CRels[2].At, o.CRels[2].Kind = 2, api.Branch })
	checkValid(t, "a branch's, but not above the one ahead", at, 2, api.ErrRange)
}
