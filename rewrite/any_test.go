package rewrite_test

import (
	"testing"

	"facade/api"
	"facade/rewrite"
)

// dice are numbers that look like any, the same ones each time.
type dice uint64

func (d *dice) below(n int) int {
	*d = *d*6364136223846793005 + 1442695040888963407
	return int(uint64(*d)>>33) % n
}

// P11.1, P11.2: rows of any pieces, short ones and long ones, with few words to be rewritten or many.
func TestP11_2Any(t *testing.T) {
	l := pieces()
	d := dice(11)
	for n := range 600 {
		var row []piece
		rare := d.below(4) // how often a word that would be rewritten isn't taken
		for range d.below(1 + 4*(n%120)) {
			p := l[d.below(len(l))]
			if !p.change || d.below(1+rare) == 0 {
				row = append(row, p)
			}
		}
		o, want := laid(row...)
		check(t, "any pieces", o, want)
		checkKept(t, o)
	}
}

// checkKept holds, by what Do tells of an object alone, that each word that is not rewritten is as it was, with its
// mark, and that each one that is has become two words and no more.
func checkKept(t *testing.T, o api.Object) {
	t.Helper()
	p, places, err := rewrite.Do(o)
	if err != nil || len(places) != len(o.Code)+1 || places[0] != 0 || places[len(o.Code)] != len(p.Code) {
		t.Fatal(len(p.Code), places, err)
	}
	for at, word := range o.Code {
		to := places[at]
		_, change := registers()[int(word>>24)]
		if o.Map[at] == 1 && change {
			in, is := rewrite.Back(p.Code[to+1])
			if !is || w(in.Op, in.A, in.B, in.C) != word || places[at+1] != to+2 {
				t.Errorf("word %d, %x: %v, %v at %d, the next at %d", at, word, in, is, to, places[at+1])
			}
			continue
		}
		if p.Code[to] != word || p.Map[to] != o.Map[at] || places[at+1] != to+1 {
			t.Errorf("word %d, %x, Map %d: %x, Map %d at %d, the next at %d", at, word, o.Map[at], p.Code[to], p.Map[to], to, places[at+1])
		}
	}
}

// P11.2: twice as many words where all is rewritten, and never more.
func TestP11_2Twice(t *testing.T) {
	for op := range registers() {
		for n := range 5 {
			l := make([]piece, n, n+1)
			for k := range l {
				l[k] = instruction(op)
			}
			for at, extra := range [][]piece{nil, {instruction(api.Nop)}} {
				o, want := laid(append(l, extra...)...)
				check(t, "all of one operation", o, want)
				if words, err := rewrite.Needs(o); words != 2*n+at || err != nil {
					t.Errorf("operation %d: %d words of %d, %v", op, words, len(o.Code), err)
				}
			}
		}
	}
}
