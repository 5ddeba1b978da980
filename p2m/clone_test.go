package p2m_test

import (
	"slices"
	"testing"

	"facade/api"
)

func TestP17_1CloneGoesItsOwnWay(t *testing.T) {
	p := of(t, 3, 4, 5)
	q := p.Clone()
	is(t, "a copy", q, 3, 4, 5)
	put(t, q, 0, 8)
	add(t, q, 3, 3)
	is(t, "the copy", q, 8, 4, 5, 3)
	is(t, "behind the copy's calls", p, 3, 4, 5)
	r := p.Clone()
	put(t, p, 2, 9)
	add(t, p, 5, 3)
	add(t, p, 1, 4)
	is(t, "the first one", p, 3, 4, 9, 5, 1)
	is(t, "behind the first one's calls", r, 3, 4, 5)
	is(t, "behind the first one's calls", q, 8, 4, 5, 3)
}

// Whatever spare room a list has: what one of two adds is not the other's.
func TestP17_1CloneOfEachSize(t *testing.T) {
	frames := odd()
	for n := range full {
		p := of(t, frames[:n]...)
		q := p.Clone()
		add(t, p, 0, n)
		add(t, q, 2, n)
		if a, _ := p.Get(n); a != 0 {
			t.Errorf("behind a copy's Add number %d names %d, not 0", n, a)
		}
		if a, _ := q.Get(n); a != 2 {
			t.Errorf("of a copy number %d names %d, not 2", n, a)
		}
	}
}

func TestP17_1CloneOfNoneAndOfAll(t *testing.T) {
	p := of(t)
	q := p.Clone()
	is(t, "a copy of none", q)
	add(t, q, 6, 0)
	is(t, "behind the copy's Add", p)
	full := filled(t).Clone().Clone()
	is(t, "a copy of as many as there may be", full, odd()...)
	addRefused(t, full, 0, api.ErrMany)
	put(t, full, 0, 0)
}

func TestP0_4ListsAreNobodys(t *testing.T) {
	for _, frames := range [][]int{{}, {5}, {3, 4, 5}, {9, 8, 7, 6, 5}, odd()} {
		p := of(t, frames...)
		a, b := p.All(), p.All()
		a = append(a, 9, 9, 9)
		for i := range a[:cap(a)] {
			a[:cap(a)][i] = 77
		}
		if !slices.Equal(b, frames) {
			t.Errorf("another list shows %v, not %v", b, frames)
		}
		for i := range b[:cap(b)] {
			b[:cap(b)][i] = 66
		}
		is(t, "behind writing into lists", p, frames...)
	}
}

func TestP0_4ListsStayAsTheyWere(t *testing.T) {
	p := of(t, 3, 4, 5)
	l := p.All()
	put(t, p, 0, 8)
	add(t, p, 3, 3)
	if !slices.Equal(l, []int{3, 4, 5}) {
		t.Errorf("a list became %v", l)
	}
	add(t, p, 99, 4)
	_ = append(l, 77)
	is(t, "behind appending to a list", p, 8, 4, 5, 3, 99)
}
