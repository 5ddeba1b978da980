package relax_test

import (
	"math"
	"slices"
	"strconv"
	"testing"

	"facade/relax"
)

// ahead is a branch that goes so many words ahead to the item behind those between; back one that goes so many back.
func ahead(words int) []relax.Item { return one(branch(2), plain(words-1), plain(1)) }
func back(words int) []relax.Item  { return one(plain(words), branch(0)) }

// P12.1: the furthest that a short branch goes, from both sides, and a long one of the same way.
func TestP12_1FitsEdges(t *testing.T) {
	for _, x := range []struct {
		what string
		l    []relax.Item
		at   int
		want bool
	}{
		{"126 ahead", ahead(126), 0, true},
		{"127 ahead", ahead(127), 0, true},
		{"128 ahead", ahead(128), 0, false},
		{"129 ahead", ahead(129), 0, false},
		{"255 ahead", ahead(255), 0, false},
		{"256 ahead", ahead(256), 0, false},
		{"383 ahead", ahead(383), 0, false},
		{"127 back", back(127), 1, true},
		{"128 back", back(128), 1, true},
		{"129 back", back(129), 1, false},
		{"130 back", back(130), 1, false},
		{"256 back", back(256), 1, false},
		{"257 back", back(257), 1, false},
		{"127 ahead, by its own words", one(sized(127, 1), plain(0)), 0, true},
		{"128 ahead, by its own words", one(sized(128, 1), plain(0)), 0, false},
		{"128 back, whatever its own words", one(plain(128), sized(999, 0)), 1, true},
		{"129 back, of no words", one(plain(129), sized(0, 0)), 1, false},
		{"127 ahead, word by word", row(one(branch(127)), words(130)), 0, true},
		{"128 ahead, word by word", row(one(branch(128)), words(130)), 0, false},
		{"128 back, word by word", row(words(130), one(branch(2))), 130, true},
		{"129 back, word by word", row(words(130), one(branch(1))), 130, false},
		{"127 to behind the last", row(one(branch(127)), words(126)), 0, true},
		{"128 to behind the last", row(one(branch(128)), words(127)), 0, false},
		{"the last, to behind itself", row(words(500), one(branch(501))), 500, true},
		{"the last, to behind itself, of 127 words", row(words(500), one(sized(127, 501))), 500, true},
		{"the last, to behind itself, of 128 words", row(words(500), one(sized(128, 501))), 500, false},
		{"the first, to itself", row(one(branch(0)), words(500)), 0, true},
		{"the first, to itself, of many words", one(sized(2048, 0), plain(1)), 0, true},
		{"one in between, to itself", row(words(300), one(sized(700, 300)), words(300)), 300, true},
		{"127 ahead, far from the beginning", row(words(3000), one(branch(3002), plain(126)), words(9)), 3000, true},
		{"128 ahead, far from the beginning", row(words(3000), one(branch(3002), plain(127)), words(9)), 3000, false},
		{"to an item below 0", one(branch(-1), plain(1)), 0, false},
		{"to one past the end", one(plain(1), branch(3)), 1, false},
		{"to the least one", one(branch(math.MinInt)), 0, false},
		{"to the greatest one", one(branch(math.MaxInt)), 0, false},
		{"no words ahead, below 0", one(branch(2), plain(-129), plain(1)), 0, true},
		{"129 back, to an item behind", one(branch(2), plain(-130), plain(1)), 0, false},
		{"127 ahead, to an item ahead", one(plain(-127), branch(0)), 1, true},
		{"128 ahead, to an item ahead", one(plain(-128), branch(0)), 1, false},
	} {
		n := len(x.l)
		checkFits(t, x.what, x.l, only(n), x.want)
		checkFits(t, x.what+", long", x.l, only(n, x.at), true)
		l := slices.Clone(x.l)
		l[x.at].Branch = false
		checkFits(t, x.what+", no branch", l, only(n), true)
	}
}

// P12.1: each distance from 300 back to 300 ahead.
func TestP12_1FitsDistances(t *testing.T) {
	l := words(601)
	for to := range l {
		l[300] = branch(to)
		checkFits(t, "to "+strconv.Itoa(to), l, only(601), to >= 172 && to <= 427)
		checkFits(t, "to "+strconv.Itoa(to)+", long", l, only(601, 300), true)
	}
}

// P12.1: a long item between takes a word more, be it a branch or not; those beside the way, and the one that is gone
// to, don't.
func TestP12_1FitsPushed(t *testing.T) {
	for _, it := range []relax.Item{plain(6), sized(6, 0), sized(6, -9)} {
		for _, x := range []struct {
			what string
			size int
			to   int
			long []int
			want bool
		}{
			{"to the first, none long", 122, 0, []int{3, 4, 5, 6}, true},
			{"to the first, the first long", 122, 0, []int{0, 3, 4, 5, 6}, false},
			{"to the first, the one between long", 122, 0, []int{1, 3, 4, 5, 6}, false},
			{"to the first, one word less", 121, 0, []int{0, 3, 4, 5, 6}, true},
			{"to the first, one word less, two long", 121, 0, []int{0, 1, 3, 4, 5, 6}, false},
			{"to the second, the first long", 128, 1, []int{0, 3, 4, 5, 6}, true},
			{"to the last, none long", 120, 5, []int{0, 1, 5, 6}, true},
			{"to the last, the one between long", 120, 5, []int{0, 1, 3, 5, 6}, false},
			{"to the last, the one ahead of it long", 120, 5, []int{0, 1, 4, 5, 6}, false},
			{"to the last, one word less", 119, 5, []int{0, 1, 4, 5, 6}, true},
			{"to behind the last but one, it is long", 114, 6, []int{0, 1, 5}, false},
			{"to behind the last but one, it is short", 114, 6, []int{0, 1, 6}, true},
		} {
			l := one(it, plain(x.size), branch(x.to), it, plain(x.size), it, it)
			long := only(7, x.long...)
			for k := range l {
				// the one in the middle alone is to be asked
				l[k].Branch = k == 2 || it.Branch && long[k]
			}
			checkFits(t, x.what, l, long, x.want)
		}
	}
}

// P12.1: one that goes too far, among many that don't, wherever it stands.
func TestP12_1FitsOneOfMany(t *testing.T) {
	for far := range 200 {
		l := words(400)
		for k := range 200 {
			l[k] = branch(k + 1)
		}
		checkFits(t, "all go near", l, only(400), true)
		l[far] = branch(far + 128)
		checkFits(t, "one goes far", l, only(400), false)
		checkFits(t, "one goes far, another is long", l, only(400, 200), false)
		checkFits(t, "one goes far, and is long", l, only(400, far), true)
	}
	checkFits(t, "no items", nil, nil, true)
	checkFits(t, "no branches", words(5000), only(5000), true)
	checkFits(t, "no branches, some long", words(5000), only(5000, 1, 4000), true)
}

// P12.1: an item that is no branch asks for nothing, whatever its To; nor one that is long.
func TestP12_1FitsAsksForNothing(t *testing.T) {
	for _, to := range []int{math.MinInt, math.MinInt32, -129, -1, 0, 1, 2, 3, 4, 129, math.MaxInt32, math.MaxInt} {
		l := []relax.Item{{300, to, false}, {300, to, true}, {300, to, false}}
		checkFits(t, "To "+strconv.Itoa(to), l, only(3, 1), true)
		checkFits(t, "To "+strconv.Itoa(to)+", all long", l, only(3, 0, 1, 2), true)
		checkFits(t, "To "+strconv.Itoa(to)+", short", l, only(3), to == 1)
	}
}

// P0.6, P12.1: distances are what they are without bounds, though Sizes are as great, or as far below 0, as can be.
func TestP12_1FitsWithoutBounds(t *testing.T) {
	const most, least = math.MaxInt, math.MinInt
	for _, x := range []struct {
		what string
		l    []relax.Item
		want bool
	}{
		{"2^64 ahead", one(sized(most, 3), plain(most), plain(2)), false},
		{"2^64 and 127 ahead", one(sized(most, 3), plain(most), plain(129)), false},
		{"2^64 less 128 ahead", one(sized(most, 3), plain(most), plain(-126)), false},
		{"2^63 ahead", one(sized(most, 2), plain(1)), false},
		{"2^63 back", one(plain(most), plain(1), branch(0)), false},
		{"2^64 back", one(plain(most), plain(most), plain(2), branch(0)), false},
		{"2^64 ahead, of Sizes below 0", one(plain(least), plain(least), branch(0)), false},
		{"2^64 back, of Sizes below 0", one(sized(least, 2), plain(least)), false},
		{"2^65 ahead", row(one(sized(0, 5)), slices.Repeat(one(plain(most)), 4), one(plain(4))), false},
		{"2^63 ahead, where more comes behind", one(sized(most, 2), plain(1), plain(-most), plain(-1)), false},
		{"2^64 less 2, and back to 127", one(sized(most, 5), plain(most), plain(-most), plain(-most), plain(127)), true},
		{"2^64 less 2, and back to 128", one(sized(most, 5), plain(most), plain(-most), plain(-most), plain(128)), false},
		{"2^64 less 2, and back to -128", one(sized(most, 5), plain(most), plain(-most), plain(-most), plain(-128)), true},
		{"2^64 less 2, and back to -129", one(sized(most, 5), plain(most), plain(-most), plain(-most), plain(-129)), false},
		{"-2^64, and on to 0", one(sized(least, 5), plain(least), plain(most), plain(most), plain(2)), true},
		{"itself, of the greatest Size", one(sized(most, 0)), true},
		{"ahead, behind 2^64 words", one(plain(most), plain(most), plain(9), branch(5), plain(126)), true},
		{"too far ahead, behind 2^64 words", one(plain(most), plain(most), plain(9), branch(5), plain(127)), false},
		{"back, behind 2^64 words", one(plain(most), plain(most), plain(128), branch(2)), true},
		{"too far back, behind 2^64 words", one(plain(most), plain(most), plain(129), branch(2)), false},
		{"back, over the greatest int", one(plain(most-3), plain(128), branch(1)), true},
		{"ahead, over the greatest int", one(plain(most-3), branch(3), plain(126)), true},
	} {
		checkFits(t, x.what, x.l, only(len(x.l)), x.want)
		if want := fits(x.l, only(len(x.l))); want != x.want {
			t.Errorf("%s: by the chapter's words it is %v", x.what, want)
		}
	}
}

// P12.1: any items, with any long ones, by the chapter's words.
func TestP12_1FitsAny(t *testing.T) {
	d := dice(12)
	sizes := []int{0, 1, 2, 30, 63, 64, 65, 126, 127, 128, 129, -1, -64, -128, math.MaxInt, math.MinInt, -math.MaxInt}
	all := 0
	for range 40000 {
		n := 1 + d.below(7)
		some := 1 + d.below(len(sizes))
		l, long := make([]relax.Item, n), make([]bool, n)
		for k := range l {
			l[k] = relax.Item{Size: sizes[d.below(some)], To: d.below(n+1+n/6) - n/7, Branch: d.below(3) > 0}
			long[k] = d.below(4) == 0
		}
		want := fits(l, long)
		if checkFits(t, "any", l, long, want); t.Failed() {
			return
		}
		if want {
			all++
		}
	}
	if all < 8000 || all > 32000 {
		t.Errorf("%d of 40000 fit", all)
	}
}
