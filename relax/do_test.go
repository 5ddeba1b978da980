package relax_test

import (
	"slices"
	"strconv"
	"testing"

	"facade/api"
	"facade/relax"
)

// P12.2: which are long, and how many rounds changed something.
func TestP12_2Do(t *testing.T) {
	for _, x := range []struct {
		what   string
		l      []relax.Item
		long   []int
		rounds int
	}{
		{"no items", nil, nil, 0},
		{"no items, a list that is there", []relax.Item{}, nil, 0},
		{"a branch to itself", one(branch(0)), nil, 0},
		{"a branch to itself, of MaxWords words", one(sized(2048, 0)), nil, 0},
		{"a branch to behind itself", one(branch(1)), nil, 0},
		{"no branches", words(500), nil, 0},
		{"no branch, far from everything", one(plain(2048), relax.Item{Size: 1, To: 0}, plain(2048)), nil, 0},
		{"127 ahead", ahead(127), nil, 0},
		{"128 ahead", ahead(128), []int{0}, 1},
		{"2000 ahead", ahead(2000), []int{0}, 1},
		{"128 back", back(128), nil, 0},
		{"129 back", back(129), []int{1}, 1},
		{"2000 back", back(2000), []int{1}, 1},
		{"127 to behind itself", one(sized(127, 1)), nil, 0},
		{"128 to behind itself", one(sized(128, 1)), []int{0}, 1},
		{"one of no words, 127 ahead", one(sized(0, 2), plain(127)), nil, 0},
		{"one of no words, 128 ahead", one(sized(0, 2), plain(128)), []int{0}, 1},
		{"one of no words, 128 back", one(plain(128), sized(0, 0)), nil, 0},
		{"one of no words, 129 back", one(plain(129), sized(0, 0)), []int{1}, 1},
		{"two in one round", one(branch(3), branch(3), plain(127)), []int{0, 1}, 1},
		{"two in one round, the one doesn't push the other", one(branch(2), plain(2000), branch(0)), []int{0, 2}, 1},
		{"two that go over one another, both near", one(branch(2), plain(126), branch(1)), nil, 0},
		{"each over the other, the one far", one(branch(3), plain(126), branch(0), plain(9)), []int{0}, 1},
		{"each over the other, the one far, it pushes the other", one(branch(3), plain(127), branch(0), plain(9)), []int{0, 2}, 2},
		{"the one far back, it pushes the other", one(plain(60), branch(4), plain(125), branch(0), plain(9)), []int{1, 3}, 2},
		{"the one far back, the other far enough from the edge", one(plain(60), branch(4), plain(124), branch(0), plain(9)), []int{3}, 1},
		{"one word beyond is no push for what it goes to", one(branch(2), plain(126), branch(4), plain(200)), []int{2}, 1},
		{"what stands ahead of the way is no push", one(branch(3), plain(200), branch(4), plain(126), plain(1)), []int{0}, 1},
		{"its own word more is none for one that goes back", one(plain(128), branch(0), branch(4), plain(500)), []int{2}, 1},
		{"a long one pushes one ahead of it and one behind", one(plain(1), branch(3), sized(126, 5), branch(0), plain(999)), []int{1, 2, 3}, 2},
		{"a long one pushes one ahead of it, and both one behind", one(plain(9), branch(3), sized(126, 5), branch(1), plain(999)), []int{1, 2, 3}, 3},
		{"two long ones don't push one that has room for two", one(branch(4), branch(5), branch(5), plain(122), plain(999)), []int{1, 2}, 1},
		{"two long ones push one that has room for one", one(branch(4), branch(5), branch(5), plain(123), plain(999)), []int{0, 1, 2}, 2},
		{"two long ones push one back that has room for one", one(branch(5), branch(5), plain(125), branch(0), plain(999)), []int{0, 1, 3}, 2},
	} {
		checkDo(t, x.what, x.l, only(len(x.l), x.long...), x.rounds)
	}
}

// P12.2: all of a round become long at once, those that already go too far and no other one.
func TestP12_2AtOnce(t *testing.T) {
	for n := 1; n < 128; n += 7 {
		l := row(slices.Repeat(one(branch(n+1)), n), words(1))
		for first := 1; first <= n; first++ {
			l[n].Size = 128 - n + first - 1 // so many as first go 128 ahead, or more
			checkDo(t, strconv.Itoa(first)+" far", l, only(n+1, seq(first)...), 1)
		}
	}
}

// seq are the numbers below n.
func seq(n int) []int {
	l := make([]int, n)
	for k := range l {
		l[k] = k
	}
	return l
}

// P12.2, P12.3: chains, in which each one that becomes long pushes the next one: as many rounds as branches.
func TestP12_3Chains(t *testing.T) {
	for _, n := range []int{1, 2, 3, 4, 5, 10, 63, 100, 1000, 2048} {
		what := strconv.Itoa(n) + " branches, "
		// each goes over the next one, with 127 words; the last is far
		up := slices.Repeat(one(branch(0), plain(125)), n)
		down := slices.Repeat(one(plain(127), branch(0)), n)
		for k := range n {
			up[2*k].To = 2*k + 3
			down[2*k+1].To = 2*k - 1
		}
		up[2*n-2].To, down[1].To = 2*n, 0
		checkDo(t, what+"ahead, all near", up, only(2*n), 0)
		checkDo(t, what+"back, all near", down, only(2*n), 0)
		var evens, odds []int
		for k := range n {
			evens, odds = append(evens, 2*k), append(odds, 2*k+1)
		}
		up[2*n-1].Size, down[0].Size = 127, 129
		checkDo(t, what+"ahead", up, only(2*n, evens...), n)
		checkDo(t, what+"back", down, only(2*n, odds...), n)
		if n > 4 {
			up[n/2/2*2+1].Size--
			cut := only(2*n, evens[n/2/2+1:]...)
			checkDo(t, what+"ahead, with room in between", up, cut, count(cut))
		}
	}
}

// P12.2, P12.3: as many items as there may be, all branches, and as many rounds as these.
func TestP12_3Longest(t *testing.T) {
	l := make([]relax.Item, 4096)
	for k := range l {
		l[k] = sized(63+k%2, k+2) // any two have 127 words
	}
	l[4095].To = 4096
	checkDo(t, "4096 branches, all near", l, only(4096), 0)
	l[4095].To = 0
	checkDo(t, "4096 branches, one far", l, only(4096, seq(4096)...), 4096)
	checkDo(t, "4096 branches, all far", slices.Repeat(one(sized(128, 4096)), 4096), only(4096, seq(4096)...), 1)
}

// P12.2: as many items as 4096, of any kind, and not one more.
func TestP12_2HowMany(t *testing.T) {
	for _, it := range []relax.Item{plain(0), plain(1), plain(2048), {Size: 1, To: -1}, branch(4095), sized(0, 0), sized(2048, 2)} {
		l := slices.Repeat(one(it), 4096)
		want, rounds := done(l[:300])
		if it.To < 300 {
			checkDo(t, "300", l[:300], want, rounds)
		}
		long, _, is := relax.Do(l...)
		if !is || len(long) != 4096 || !relax.Fits(l, long) {
			t.Errorf("4096 of %v: %d, %v", it, len(long), is)
		}
		checkRefused(t, "4097", append(l, it))
		checkRefused(t, "9000", slices.Repeat(one(it), 9000))
	}
	checkDo(t, "4095", words(4095), only(4095), 0)
	checkDo(t, "the last of 4096", row(words(4095), one(branch(0))), only(4096, 4095), 1)
	checkDo(t, "the last of 4096, to behind it", row(words(4095), one(branch(4096))), only(4096), 0)
	checkRefused(t, "the last of 4097", row(words(4096), one(branch(0))))
}

// tight are so many items of some of these sizes, of which most are branches that go nearly as far as short ones may.
func tight(d *dice, n int, sizes ...int) []relax.Item {
	l := make([]relax.Item, n)
	for k := range l {
		l[k] = plain(sizes[d.below(len(sizes))])
	}
	slack := 1 + d.below(6)
	for k := range l {
		if d.below(5) == 0 {
			continue
		}
		l[k].Branch = true
		room, to := 127-d.below(slack), k
		if d.below(2) == 0 {
			for ; to < n && room >= l[to].Size; to++ {
				room -= l[to].Size
			}
		} else {
			for room++; to > 0 && room >= l[to-1].Size; to-- {
				room -= l[to-1].Size
			}
		}
		l[k].To = to
		if d.below(16) == 0 {
			l[k].To = d.below(n + 1)
		}
	}
	return l
}

// P12.3: any items: as the chapter's words have it, round by round.
func TestP12_3Any(t *testing.T) {
	d := dice(3)
	most := 0
	for n := range 1000 {
		l := tight(&d, 1+d.below(1+n%120), seq(2+d.below(64))...)
		if d.below(4) == 0 {
			l[d.below(len(l))].Size = d.below(api.MaxWords + 1)
		}
		long, rounds := done(l)
		if checkDo(t, "any", l, long, rounds); t.Failed() {
			return
		}
		most = max(most, rounds)
	}
	if most < 8 {
		t.Errorf("%d rounds at most", most)
	}
}

// edged are so many items that begin, and end, at multiples of 127 and few words beside, so that many branches go just
// as far as short ones may.
func edged(d *dice, n int) []relax.Item {
	places := make([]int, n+1)
	for k := range places {
		places[k] = 127*d.below(2+n/2) + d.below(4)
	}
	slices.Sort(places)
	l := make([]relax.Item, n)
	for k := range l {
		l[k] = relax.Item{Size: places[k+1] - places[k], To: d.below(n + 1), Branch: d.below(5) > 0}
		for try := 0; try < 8 && (places[l[k].To]-places[k] < -130 || places[l[k].To]-places[k] > 130); try++ {
			l[k].To = d.below(n + 1)
		}
	}
	return l
}

// P12.3: of all the ways that some items may be long, those that fit have no fewer long ones, and none of Do's short.
func TestP12_3Least(t *testing.T) {
	d := dice(4)
	some := 0
	for n := range 5000 {
		l := edged(&d, 1+n%10)
		long, rounds := done(l)
		if rounds > 1 {
			some++
		}
		checkDo(t, "small", l, long, rounds)
		if checkLeast(t, l); t.Failed() {
			return
		}
	}
	if some < 250 {
		t.Errorf("%d have rounds behind the first", some)
	}
}

// checkLeast holds what Do tells of items that may be against every way that they may be long, no branches too.
func checkLeast(t *testing.T, l []relax.Item) {
	t.Helper()
	long, _, _ := relax.Do(l...)
	if len(long) != len(l) {
		t.Fatalf("%d of %s", len(long), told(l))
	}
	for bits := range 1 << len(l) {
		other := way(len(l), bits)
		fit := fits(l, other)
		checkFits(t, "a way", l, other, fit)
		for k := range l {
			if fit && long[k] && !other[k] {
				t.Errorf("%d need not be long: %s, %v fits too", k, told(l), other)
			}
		}
		if fit && count(other) < count(long) {
			t.Errorf("%d are enough: %s, %v fits too", count(other), told(l), other)
		}
	}
}
