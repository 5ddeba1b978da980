package check_test

import (
	"testing"

	"facade/api"
	"facade/check"
)

// entry is an entry's word, of a frame that may be written, or only read.
func entry(frame int) uint32    { return uint32(frame)<<8 | 3 }
func readOnly(frame int) uint32 { return uint32(frame)<<8 | 1 }

// put are lines that let an update of a page wait.
func put(page int, e uint32) []line {
	return []line{li(13, uint32(page)), li(14, e), op(api.Spte, 13, 14, 0)}
}

// mapped are lines by which a page is that entry's.
func mapped(page int, e uint32) []line { return append(put(page, e), op(api.Sync, 0, 0, 0)) }

// stored and loaded are lines that bring a register to a word, and a word to a register, by its address.
func stored(reg, addr int) []line { return []line{li(12, uint32(addr)), op(api.St, reg, 12, 0)} }
func loaded(reg, addr int) []line { return []line{li(12, uint32(addr)), op(api.Ld, reg, 12, 0)} }

// place and number bring a place of code, and a number, into register 3.
func place() []line  { return []line{la(3, 2050)} }
func number() []line { return []line{li(3, 2050)} }

// comes holds whether register 4, which is a place ahead of it if it is to be none, is one behind these lines.
func comes(t *testing.T, what string, is bool, lines ...[]line) {
	t.Helper()
	c := coded(t, join(append([][]line{{li(4, 0)}}, lines...)...)...)
	if !is {
		c = coded(t, join(append([][]line{{la(4, 2050)}}, lines...)...)...)
	}
	n := 1
	for _, l := range lines {
		n += len(l)
	}
	run(t, c, n)
	if got := c.Tagged(4); got != is {
		t.Errorf("%s: what comes is a place: %v, want %v", what, got, is)
	}
}

// P15.1 St, Ld: the word is as register A was, and register A as the word is; no other word is.
func TestP15_1Memory(t *testing.T) {
	for _, addr := range []int{0, 1, 15, 16, 17, 19, 31} {
		comes(t, "as it was", false, loaded(4, addr))
		comes(t, "a place", true, place(), stored(3, addr), loaded(4, addr))
		comes(t, "a place, and then a number there", false, place(), stored(3, addr), number(), stored(3, addr), loaded(4, addr))
		comes(t, "a place, and then a number here", true, place(), stored(3, addr), number(), loaded(4, addr))
		comes(t, "a number, and then a place here", false, number(), stored(3, addr), place(), loaded(4, addr))
		for _, other := range []int{0, 1, 15, 16, 17, 18, 30, 31} {
			if other != addr {
				comes(t, "another word", false, place(), stored(3, addr), loaded(4, other))
			}
		}
	}
}

// P15.1 St, Ld: each register, by each number behind register B.
func TestP15_1MemoryRegisters(t *testing.T) {
	for a := range 16 {
		b := (a + 4) % 16
		c := coded(t, li(b, 6), la(a, 2050), op(api.St, a, b, 20), li(a, 1), op(api.Ld, a, b, 20), op(api.Ld, b, b, 20))
		run(t, c, 2)
		goes(t, "st", c, tags(a))
		goes(t, "li", c, tags())
		goes(t, "ld", c, tags(a))
		goes(t, "ld into its own address", c, tags(a, b))
	}
	c := coded(t, li(5, most), la(3, 2050), op(api.St, 3, 5, 1), op(api.Ld, 4, 0, 0)) // addresses go round
	run(t, c, 3)
	goes(t, "ld of address 0", c, tags(3, 4))
}

// P15.1: words of data that DataRefs names are places at the beginning, and no others are.
func TestP15_1Data(t *testing.T) {
	for _, refs := range [][]int{{0}, {19}, {15, 16}, {0, 1, 2, 3, 17}, {4, 19}} {
		for word := range 32 {
			lines := append(loaded(4, word), op(api.Nop, 0, 0, 0))
			i := image(20, lines...)
			i.DataRefs = refs
			want := tags()
			for _, r := range refs {
				if r == word {
					want = tags(4)
				}
			}
			c := made(t, i)
			run(t, c, 1)
			goes(t, "ld", c, want)
		}
	}
}

// P15.1: each word of the most data that there may be, as it is named.
func TestP15_1AllData(t *testing.T) {
	i := image(2048, li(6, 1), li(5, 0), op(api.Ld, 4, 5, 0), op(api.Add, 5, 5, 6), op(api.Br, 0, 0, 0xfe), op(api.Nop, 0, 0, 0))
	for k := 0; k < 2048; k += 3 {
		i.DataRefs = append(i.DataRefs, k)
	}
	c := madeOf(t, i, 145)
	for range 2 {
		c.Step()
	}
	for k := range 2048 {
		if is, broken := c.Step(); !is || broken != 0 || c.Tagged(4) != (k%3 == 0) {
			t.Fatalf("word %d: %v, %d, tagged %v", k, is, broken, c.Tagged(4))
		}
		c.Step()
		c.Step()
	}
}

// P15.1: a word's tag is that of its place, by whichever page.
func TestP15_1MappedTwice(t *testing.T) {
	for _, page := range []int{1, 2, 5, 15, 16, 17, 127} {
		to := page*16 + 3
		twice := mapped(page, entry(17))
		comes(t, "a place, from the one page to the other", true, twice, place(), stored(3, 3), loaded(4, to))
		comes(t, "a place, from the other page to the one", true, twice, place(), stored(3, to), loaded(4, 3))
		comes(t, "a place, mapped behind it", true, place(), stored(3, 3), twice, loaded(4, to))
		comes(t, "a number over a place", false, place(), stored(3, 3), twice, number(), stored(3, to), loaded(4, 3))
		comes(t, "another word", false, twice, place(), stored(3, 3), loaded(4, to+1))
		comes(t, "the word ahead", false, twice, place(), stored(3, 3), loaded(4, to-1))
	}
}

// P15.1: a word's tag is that of its place as it is mapped then: an update counts when it is done, not while it waits.
func TestP15_1MappedAnew(t *testing.T) {
	comes(t, "mapped anew", false, place(), stored(3, 3), mapped(0, entry(20)), loaded(4, 3))
	comes(t, "it waits", true, place(), stored(3, 3), put(0, entry(20)), loaded(4, 3))
	comes(t, "mapped anew, and back", true, place(), stored(3, 3), mapped(0, entry(20)), mapped(0, entry(17)), loaded(4, 3))
	comes(t, "mapped anew, and back, a number between", true, place(), stored(3, 3), mapped(0, entry(20)), number(), stored(3, 3), mapped(0, entry(17)), loaded(4, 3))
	comes(t, "a place between", false, mapped(0, entry(20)), place(), stored(3, 3), mapped(0, entry(17)), loaded(4, 3))
	comes(t, "a place that stays where it is", true, mapped(0, entry(20)), place(), stored(3, 3), mapped(0, entry(17)), mapped(7, entry(20)), loaded(4, 7*16+3))
	comes(t, "pages that change places", true, place(), stored(3, 3), put(0, entry(18)), put(1, entry(17)), []line{op(api.Sync, 0, 0, 0)}, loaded(4, 16+3))
	comes(t, "pages that change places, and the other one", false, place(), stored(3, 3), put(0, entry(18)), put(1, entry(17)), []line{op(api.Sync, 0, 0, 0)}, loaded(4, 3))
	comes(t, "unmapped, and back", true, place(), stored(3, 3), mapped(0, 0), mapped(0, entry(17)), loaded(4, 3))
	comes(t, "to be read alone", true, place(), stored(3, 3), mapped(0, readOnly(17)), loaded(4, 3))
}

// P15.1: where MaxQueue updates wait, one more has them done: they count from then on, and that one doesn't yet.
func TestP15_1MappedByMore(t *testing.T) {
	var waiting []line
	for range 15 {
		waiting = join(waiting, put(100, entry(22)))
	}
	first := join(place(), stored(3, 3), put(0, entry(20)), waiting)
	comes(t, "16 wait", true, first, loaded(4, 3))
	comes(t, "one more", false, first, put(100, entry(21)), loaded(4, 3))
	comes(t, "one more that may not be", true, first, put(100, entry(16)), loaded(4, 3))
	comes(t, "one more, by which it is back later", false, first, put(0, entry(17)), loaded(4, 3))
	comes(t, "one more, by which it is back", true, first, put(0, entry(17)), []line{op(api.Sync, 0, 0, 0)}, loaded(4, 3))
}

// P15.1: a load, or a store, that traps leaves the tags as they were.
func TestP15_1TrapsLeave(t *testing.T) {
	trap := []line{op(api.Gcs, 10, 0, 0), op(api.Nop, 0, 0, 0)}
	for _, x := range []struct {
		what  string
		lines []line
		want  [16]bool
	}{
		{"ld into a place", []line{la(4, 2050), op(api.Ld, 4, 5, 255)}, tags(4, 8)},
		{"ld into a number", []line{li(4, 2050), op(api.Ld, 4, 5, 255)}, tags(8)},
		{"ld of a page behind the last", []line{la(4, 2050), li(5, 4096), op(api.Ld, 4, 5, 0)}, tags(4, 8)},
		{"st of a place", []line{la(4, 2050), op(api.St, 4, 5, 255)}, tags(4, 8)},
		{"st of a number", []line{li(4, 2050), op(api.St, 4, 5, 255)}, tags(8)},
	} {
		c := coded(t, taking(t, 0, trap, x.lines...)...)
		run(t, c, ready+len(x.lines)-1)
		goes(t, x.what, c, x.want)
		goes(t, x.what+", and behind it", c, x.want)
		if got := c.Machine().CPU().R[10]; got != api.CausePage {
			t.Errorf("%s: the cause is %d", x.what, got)
		}
	}
}

// P15.1: a store to a page that may only be read leaves the word's tag as it was.
func TestP15_1StoresLeave(t *testing.T) {
	for _, x := range []struct {
		first, then []line
		want        bool
	}{{place(), number(), true}, {number(), place(), false}} {
		lines := join(x.first, stored(3, 3), mapped(0, readOnly(17)), x.then, stored(3, 3))
		c := coded(t, taking(t, 0, []line{li(4, 0), op(api.Ld, 4, 4, 3), op(api.Nop, 0, 0, 0)}, lines...)...)
		run(t, c, ready+len(lines)+2)
		if got := c.Tagged(4); got != x.want || c.Machine().CPU().Cause != api.CausePage {
			t.Errorf("the word is a place: %v, want %v; %+v", got, x.want, c.Machine().CPU())
		}
	}
}

// P15.1: what memory brings back is held to it: it is told, or taken for a number, or gone to.
func TestP15_1MemoryHeld(t *testing.T) {
	for _, x := range []struct {
		what string
		last line
		want int
	}{{"out", op(api.Out, 4, 0, 0), check.Told}, {"add", op(api.Add, 1, 4, 5), check.Mixed}, {"ld", op(api.Ld, 1, 4, 0), check.Mixed}} {
		lines := join(place(), stored(3, 3), loaded(4, 3), []line{x.last})
		c := coded(t, lines...)
		run(t, c, len(lines)-1)
		breaks(t, x.what, c, x.want)
	}
	lines := join(place(), stored(3, 3), loaded(4, 3), []line{op(api.Jr, 4, 0, 0)})
	c := coded(t, lines...)
	run(t, c, len(lines))
	lines = join(number(), stored(3, 3), loaded(4, 3), []line{op(api.Jr, 4, 0, 0)})
	c = coded(t, lines...)
	run(t, c, len(lines)-1)
	breaks(t, "a number", c, check.NotCode)
}
