package relax_test

import (
	"math"
	"slices"
	"strconv"
	"testing"

	"facade/api"
	"facade/relax"
)

// P12.2: a Size is from 0 to MaxWords, of a branch and of no branch, wherever it stands.
func TestP12_2Size(t *testing.T) {
	for _, is := range []bool{false, true} {
		for _, size := range []int{0, 1, 127, 2047, api.MaxWords} {
			for at := range 3 {
				l := words(3)
				l[at] = relax.Item{Size: size, To: at, Branch: is}
				checkDo(t, "Size "+strconv.Itoa(size), l, only(3), 0)
			}
		}
		for _, size := range []int{-1, -2, -2048, math.MinInt32, math.MinInt, api.MaxWords + 1, 4096, 1 << 32, math.MaxInt32, math.MaxInt} {
			for at := range 3 {
				l := words(3)
				l[at] = relax.Item{Size: size, To: at, Branch: is}
				checkRefused(t, "Size "+strconv.Itoa(size)+" at "+strconv.Itoa(at), l)
			}
			checkRefused(t, "Size "+strconv.Itoa(size)+" alone", []relax.Item{{Size: size, Branch: is}})
			checkRefused(t, "Size "+strconv.Itoa(size)+", the last of 4096", row(words(4095), []relax.Item{{Size: size, Branch: is}}))
		}
	}
}

// P12.2: a To of a branch is from 0 to as many as there are; of an item that is none it is any.
func TestP12_2To(t *testing.T) {
	for n := 1; n < 6; n++ {
		for at := range n {
			for to := range n + 1 {
				l := words(n)
				l[at] = branch(to)
				checkDo(t, "To "+strconv.Itoa(to), l, only(n), 0)
			}
			for _, to := range []int{-1, -2, math.MinInt32, math.MinInt, n + 1, n + 2, 4096, 1 << 32, math.MaxInt32, math.MaxInt} {
				l := words(n)
				l[at] = branch(to)
				checkRefused(t, "To "+strconv.Itoa(to)+" at "+strconv.Itoa(at), l)
				l[at] = relax.Item{Size: 1, To: to}
				checkDo(t, "no branch, To "+strconv.Itoa(to), l, only(n), 0)
			}
		}
	}
	checkRefused(t, "4096 items, To 4097", row(one(branch(4097)), words(4095)))
	checkDo(t, "4096 items, To 4096", row(one(branch(4096)), words(4095)), only(4096, 0), 1)
}

// P12.2: nothing is told of items of which some may not be, be there others that would become long.
func TestP12_2RefusedBesideLong(t *testing.T) {
	far := one(branch(2), plain(500), branch(0))
	checkDo(t, "both far", far, only(3, 0, 2), 1)
	for what, it := range map[string]relax.Item{"below 0": plain(-1), "too many words": plain(2049), "to no item": branch(9), "to one below 0": branch(-1)} {
		checkRefused(t, what+", behind", row(far, one(it)))
		checkRefused(t, what+", ahead", row(one(it), far))
	}
	checkRefused(t, "words that add up to 0", one(plain(500), plain(-500), branch(0)))
}

// P0.4: what lies behind the items counts for nothing, and stays, as they do; what is handed out is new each time.
func TestP12_2Memory(t *testing.T) {
	l := one(branch(2), plain(127), branch(1), plain(-5), branch(77))
	was := slices.Clone(l)
	do := func() []bool {
		long, rounds, is := relax.Do(l[:3]...)
		if rounds != 1 || !is {
			t.Errorf("%d rounds, %v", rounds, is)
		}
		return long
	}
	want := only(3, 0)
	a, b := do(), do()
	for k := range a[:cap(a)] {
		a[:cap(a)][k] = true
	}
	if c := do(); !slices.Equal(b, want) || !slices.Equal(c, want) {
		t.Errorf("%v, %v, want %v", b, c, want)
	}
	if !slices.Equal(l, was) {
		t.Errorf("changed to %v", l)
	}
	b[1] = true
	if got := relax.Places(l[:3], b); !slices.Equal(got, []int{0, 2, 130, 131}) {
		t.Error(got)
	}
	checkRefused(t, "all of them", l)
}

// P0.5: what is told hangs on the items as they are now.
func TestP12_2Now(t *testing.T) {
	l := ahead(128)
	checkDo(t, "too far", l, only(3, 0), 1)
	l[1].Size--
	checkDo(t, "one word less", l, only(3), 0)
	l[1].Size = -1
	checkRefused(t, "a Size below 0", l)
	l[1].Size = 128
	checkDo(t, "too far again", l, only(3, 0), 1)
	l[0].Branch = false
	checkDo(t, "no branch", l, only(3), 0)
}
