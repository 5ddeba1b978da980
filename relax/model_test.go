package relax_test

import (
	"math/big"
	"slices"
	"strconv"
	"testing"

	"facade/relax"
)

// dice are numbers that look like any, the same ones each time.
type dice uint64

func (d *dice) below(n int) int {
	*d = *d*6364136223846793005 + 1442695040888963407
	return int(uint64(*d)>>33) % n
}

// plain is so many words that are no branch.
func plain(size int) relax.Item { return relax.Item{Size: size} }

// branch is a branch of one word.
func branch(to int) relax.Item { return sized(1, to) }

// sized is a branch of so many words.
func sized(size, to int) relax.Item { return relax.Item{Size: size, To: to, Branch: true} }

// words are so many items of one word each.
func words(n int) []relax.Item { return slices.Repeat([]relax.Item{plain(1)}, n) }

// row is all of these, one behind the other.
func row(parts ...[]relax.Item) []relax.Item { return slices.Concat(parts...) }

// one is a list of one item, or of these.
func one(l ...relax.Item) []relax.Item { return l }

// only is which of n items are long: these.
func only(n int, long ...int) []bool {
	l := make([]bool, n)
	for _, k := range long {
		l[k] = true
	}
	return l
}

// way is which of n items are long, by the bits of a number.
func way(n, bits int) []bool {
	l := make([]bool, n)
	for k := range l {
		l[k] = bits>>k&1 == 1
	}
	return l
}

// count is how many are long.
func count(long []bool) int {
	n := 0
	for _, is := range long {
		if is {
			n++
		}
	}
	return n
}

// wide is how many words the items from one to another one have, added one by one, without bounds.
func wide(l []relax.Item, long []bool, from, to int) *big.Int {
	n := new(big.Int)
	for k := from; k < to; k++ {
		n.Add(n, big.NewInt(int64(l[k].Size)))
		if long[k] {
			n.Add(n, big.NewInt(1))
		}
	}
	return n
}

// reaches is whether item k, if it is a branch that is short, goes no further than it may, by the chapter's words.
func reaches(l []relax.Item, long []bool, k int) bool {
	to := l[k].To
	switch {
	case !l[k].Branch || long[k]:
		return true
	case to < 0 || to > len(l):
		return false
	}
	far := wide(l, long, k, to)
	if to < k {
		far.Neg(wide(l, long, to, k))
	}
	return far.Cmp(big.NewInt(-128)) >= 0 && far.Cmp(big.NewInt(127)) <= 0
}

// fits is whether all items reach.
func fits(l []relax.Item, long []bool) bool {
	for k := range l {
		if !reaches(l, long, k) {
			return false
		}
	}
	return true
}

// done is what Do has to tell of items that may be, by the chapter's words, round by round.
func done(l []relax.Item) ([]bool, int) {
	long := make([]bool, len(l))
	for rounds := 0; ; rounds++ {
		next := slices.Clone(long)
		for k := range l {
			if !reaches(l, long, k) {
				next[k] = true
			}
		}
		if slices.Equal(next, long) {
			return long, rounds
		}
		long = next
	}
}

// told are items, the first ones of many, as text.
func told(l []relax.Item) string {
	s := strconv.Itoa(len(l)) + " items:"
	for _, it := range l[:min(len(l), 20)] {
		s += " " + strconv.Itoa(it.Size)
		if it.Branch {
			s += ">" + strconv.Itoa(it.To)
		}
	}
	return s
}

// checkFits holds what Fits tells.
func checkFits(t *testing.T, what string, l []relax.Item, long []bool, want bool) {
	t.Helper()
	if got := relax.Fits(l, long); got != want {
		t.Errorf("%s: Fits is %v; %s, long %v", what, got, told(l), long[:min(len(long), 20)])
	}
}

// checkDo holds what Do tells of items that may be, and what follows from any such answer.
func checkDo(t *testing.T, what string, l []relax.Item, want []bool, rounds int) {
	t.Helper()
	was := slices.Clone(l)
	long, n, is := relax.Do(l...)
	if !slices.Equal(long, want) || n != rounds || !is {
		t.Errorf("%s: %d of %d long, %d rounds, %v; want %d, %d rounds; %s", what, count(long), len(long), n, is, count(want), rounds, told(l))
	}
	if !relax.Fits(l, long) {
		t.Errorf("%s: it doesn't fit; %s", what, told(l))
	}
	branches := 0
	for k, it := range l {
		if it.Branch {
			branches++
		} else if k < len(long) && long[k] {
			t.Errorf("%s: item %d is long, and no branch; %s", what, k, told(l))
		}
	}
	if n > branches {
		t.Errorf("%s: %d rounds, %d branches; %s", what, n, branches, told(l))
	}
	if !slices.Equal(l, was) {
		t.Errorf("%s: the items were changed; %s", what, told(was))
	}
}

// checkRefused holds that Do tells nothing of these items.
func checkRefused(t *testing.T, what string, l []relax.Item) {
	t.Helper()
	was := slices.Clone(l)
	if long, rounds, is := relax.Do(l...); len(long) > 0 || rounds != 0 || is {
		t.Errorf("%s: %d long, %d rounds, %v; %s", what, len(long), rounds, is, told(l))
	}
	if !slices.Equal(l, was) {
		t.Errorf("%s: the items were changed; %s", what, told(was))
	}
}
