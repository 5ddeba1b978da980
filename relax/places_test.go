package relax_test

import (
	"math"
	"slices"
	"testing"

	"facade/relax"
)

// P12.1: where each begins, and where all end.
func TestP12_1Places(t *testing.T) {
	mixed := one(plain(2), branch(0), plain(3), plain(0), sized(5, 9))
	for _, x := range []struct {
		what string
		l    []relax.Item
		long []bool
		want []int
	}{
		{"no items", nil, nil, []int{0}},
		{"no items, lists that are there", []relax.Item{}, []bool{}, []int{0}},
		{"one of no words", one(plain(0)), only(1), []int{0, 0}},
		{"one of no words, long", one(plain(0)), only(1, 0), []int{0, 1}},
		{"one", one(plain(7)), only(1), []int{0, 7}},
		{"one, long", one(plain(7)), only(1, 0), []int{0, 8}},
		{"a branch", one(branch(0)), only(1), []int{0, 1}},
		{"a branch, long", one(branch(0)), only(1, 0), []int{0, 2}},
		{"all short", mixed, only(5), []int{0, 2, 3, 6, 6, 11}},
		{"a branch is long", mixed, only(5, 1), []int{0, 2, 4, 7, 7, 12}},
		{"the last is long", mixed, only(5, 4), []int{0, 2, 3, 6, 6, 12}},
		{"no branches are long", mixed, only(5, 0, 2, 3), []int{0, 3, 4, 8, 9, 14}},
		{"all are long", mixed, only(5, 0, 1, 2, 3, 4), []int{0, 3, 5, 9, 10, 16}},
		{"sizes that Do doesn't take", one(plain(2049), sized(-3, 7), plain(1000000)), only(3, 1), []int{0, 2049, 2047, 1002047}},
		{"sizes below 0", one(plain(-1), plain(-5)), only(2, 0), []int{0, 0, -5}},
		{"the greatest size", one(plain(math.MaxInt), plain(0)), only(2), []int{0, math.MaxInt, math.MaxInt}},
		{"the least size", one(plain(math.MinInt), plain(5)), only(2, 1), []int{0, math.MinInt, math.MinInt + 6}},
	} {
		if got := relax.Places(x.l, x.long); !slices.Equal(got, x.want) {
			t.Errorf("%s: %v, want %v", x.what, got, x.want)
		}
	}
}

// P0.6, P12.1: a place that an int has is told as it is, though one ahead of it is beyond that.
func TestP12_1PlacesWithoutBounds(t *testing.T) {
	const most = math.MaxInt
	got := relax.Places(one(plain(most), plain(most), plain(-most), plain(-most), plain(7)), only(5, 1, 3))
	if len(got) != 6 || got[1] != most || got[4] != 2 || got[5] != 9 {
		t.Error(got)
	}
}

// P12.1: where items go to counts for nothing, nor whether they are branches.
func TestP12_1PlacesOfAny(t *testing.T) {
	for _, to := range []int{math.MinInt, -1, 0, 1, 2, 3, math.MaxInt} {
		for _, is := range []bool{false, true} {
			l := []relax.Item{{4, to, is}, {1, to, !is}}
			if got := relax.Places(l, only(2, 1)); !slices.Equal(got, []int{0, 4, 6}) {
				t.Errorf("To %d, Branch %v: %v", to, is, got)
			}
		}
	}
}

// P12.1: more items than Do takes, and each way that some have, against words counted one by one.
func TestP12_1PlacesOfMany(t *testing.T) {
	l := slices.Repeat(one(plain(1), branch(3), plain(0), plain(12)), 3)
	for bits := range 1 << len(l) {
		long := way(len(l), bits)
		got := relax.Places(l, long)
		if len(got) != len(l)+1 {
			t.Fatalf("%d places of %d items", len(got), len(l))
		}
		at := 0
		for k, it := range l {
			if got[k] != at {
				t.Fatalf("long %v: %d is at %d, want %d", long, k, got[k], at)
			}
			at += it.Size
			if long[k] {
				at++
			}
		}
		if got[len(l)] != at {
			t.Fatalf("long %v: the end is %d, want %d", long, got[len(l)], at)
		}
	}
	got := relax.Places(words(5000), only(5000, 0, 4999))
	if len(got) != 5001 || got[1] != 2 || got[4999] != 5000 || got[5000] != 5002 {
		t.Errorf("5000 items: %d places", len(got))
	}
}

// P12.1: nothing, where it is said of fewer items, or of more, whether they are long; Fits is false there, whatever the
// items ask for.
func TestP12_1OtherLengths(t *testing.T) {
	for _, x := range []struct {
		what string
		l    []relax.Item
		long []bool
	}{
		{"no items, one long", nil, only(1)},
		{"no items, three", []relax.Item{}, only(3, 0, 1, 2)},
		{"one, none said", one(plain(1)), nil},
		{"one, an empty list", one(plain(1)), []bool{}},
		{"one, two said", one(plain(1)), only(2)},
		{"three, two said", one(branch(0), branch(1), branch(2)), only(2, 0, 1)},
		{"three, four said", one(branch(0), branch(1), branch(2)), only(4, 0, 1, 2, 3)},
		{"the last, that isn't said, goes too far", one(plain(500), branch(0)), only(1)},
		{"many", words(5000), only(4999)},
		{"few", words(2), only(5000)},
	} {
		if got := relax.Places(x.l, x.long); len(got) > 0 {
			t.Errorf("%s: %v", x.what, got)
		}
		checkFits(t, x.what, x.l, x.long, false)
	}
}

// P0.4, P12.1: what is said behind the lengths counts for nothing, and stays; nothing is changed; what is handed out is
// new each time.
func TestP12_1PlacesMemory(t *testing.T) {
	l, long := one(plain(2), branch(0), plain(9), branch(-5)), only(4, 0, 3)
	wasItems, wasLong := slices.Clone(l), slices.Clone(long)
	want := []int{0, 3, 4}
	a, b := relax.Places(l[:2], long[:2]), relax.Places(l[:2], long[:2])
	for k := range a[:cap(a)] {
		a[:cap(a)][k] = -7
	}
	if c := relax.Places(l[:2], long[:2]); !slices.Equal(b, want) || !slices.Equal(c, want) {
		t.Errorf("%v, %v, want %v", b, c, want)
	}
	checkFits(t, "the first two", l[:2], long[:2], true)
	checkFits(t, "the first three, too", l[:3], long[:3], true)
	l[3].To, wasItems[3].To = 0, 0
	checkFits(t, "all", l, long, true)
	if !slices.Equal(l, wasItems) || !slices.Equal(long, wasLong) {
		t.Errorf("changed to %v, %v", l, long)
	}
}
