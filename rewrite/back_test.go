package rewrite_test

import (
	"math"
	"testing"

	"facade/api"
	"facade/rewrite"
	"facade/site"
)

// P11.1: Mark is the chapter's number; no operation that has to be rewritten has it in its word.
func TestP11_1Mark(t *testing.T) {
	if rewrite.Mark != 0x80000000 {
		t.Errorf("Mark is %x", rewrite.Mark)
	}
	for op := range registers() {
		if w(op, 15, 15, 0)&rewrite.Mark != 0 {
			t.Errorf("operation %d has Mark", op)
		}
	}
}

func checkBack(t *testing.T, word uint32, want api.Instr, wanted bool) {
	t.Helper()
	if in, is := rewrite.Back(word); in != want || is != wanted {
		t.Errorf("Back of %#x: %v, %v, want %v, %v", word, in, is, want, wanted)
	}
}

// P11.1: each operation that a byte can have, with operands at their edges and beyond, with Mark and without it: back
// are those that have to be rewritten, if each operand is one that they have.
func TestP11_1Back(t *testing.T) {
	edges := []int{0, 1, 2, 14, 15, 16, 17, 127, 128, 255}
	backs := 0
	for op := range 128 {
		n, has := registers()[op]
		for _, a := range edges {
			for _, b := range edges {
				for _, c := range edges {
					word := w(op, a, b, c)
					checkBack(t, word, api.Instr{}, false)
					if !has || a > 15 || b > 15 || n < 1 && a > 0 || n < 2 && b > 0 || c > 0 {
						checkBack(t, rewrite.Mark|word, api.Instr{}, false)
						continue
					}
					checkBack(t, rewrite.Mark|word, api.Instr{Op: op, A: a, B: b}, true)
					backs++
				}
			}
		}
	}
	if backs != 4+10*5+3*25 {
		t.Errorf("%d are back", backs)
	}
}

// P11.1: words that have nothing behind Mark, or have all.
func TestP11_1BackOfAny(t *testing.T) {
	for _, word := range []uint32{0, 1, 0x80000000, 0x80000001, math.MaxUint32, math.MaxInt32, hc, 0x80000000 | hc, w(api.Halt, 15, 0, 0), 0x00800000 | w(api.Halt, 0, 0, 0), 0x80000000 | w(api.Sst, 1, 0, 0) | 0x04000000} {
		checkBack(t, word, api.Instr{}, false)
	}
}

// P11.1: of each Hc of what was rewritten, the instruction of the site in whose place it is.
func TestP11_1BackOfDo(t *testing.T) {
	o, _ := laid(pieces()...)
	sites, err := site.Sites(o)
	p, places, bad := rewrite.Do(o)
	if err != nil || bad != nil || len(sites) != 17 {
		t.Fatal(sites, err, bad)
	}
	for _, s := range sites {
		at := places[s.At]
		if p.Code[at] != hc || p.Map[at] != 1 || p.Map[at+1] != 0 {
			t.Errorf("at %d: %x, Map %v", at, p.Code[at], p.Map[at:at+2])
		}
		checkBack(t, p.Code[at+1], s.In, true)
	}
}
