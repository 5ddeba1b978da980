package check_test

import (
	"testing"

	"facade/api"
	"facade/check"
)

// all are all registers but these.
func all(but ...int) [16]bool {
	var l [16]bool
	for r := range l {
		l[r] = true
	}
	for _, r := range but {
		l[r] = false
	}
	return l
}

// places are lines that bring a place of code into each register but these, and a number there.
func places(but ...int) []line {
	var lines []line
	for r, is := range all(but...) {
		if is {
			lines = append(lines, la(r, 2050))
		} else {
			lines = append(lines, li(r, 0))
		}
	}
	return lines
}

// follows holds the tags behind these lines, of which the last one counts, and that each of them breaks nothing.
func follows(t *testing.T, what string, lines []line, want [16]bool) {
	t.Helper()
	c := coded(t, lines...)
	run(t, c, len(lines)-1)
	goes(t, what, c, want)
}

// P15.1 Mov: register A is as B is, and B stays.
func TestP15_1Mov(t *testing.T) {
	for a := range 16 {
		for b := range 16 {
			mov := op(api.Mov, a, b, 0)
			follows(t, "a place", []line{la(b, 2050), mov}, tags(a, b))
			follows(t, "a number, all else places", append(places(b), mov), all(a, b))
			if a != b {
				follows(t, "a number", []line{la(a, 2050), mov}, tags())
				follows(t, "a place, all else places", append(places(a), mov), all())
			}
		}
	}
}

// P15.1: what is reckoned is a number.
func TestP15_1Reckoned(t *testing.T) {
	for _, o := range []int{api.Add, api.Sub, api.And, api.Or, api.Xor, api.Shl, api.Shr, api.Lt, api.Eq, api.Mul} {
		for a := range 16 {
			b, c := (a+3)%16, (a+7)%16
			follows(t, "all else places", append(places(b, c), op(o, a, b, c)), all(a, b, c))
			follows(t, "of a number twice", append(places(b), op(o, a, b, b)), all(a, b))
			follows(t, "into itself", append(places(b, c), op(o, b, b, c)), all(b, c))
			follows(t, "into the other one", append(places(b, c), op(o, c, b, c)), all(b, c))
			follows(t, "alone", []line{la(a, 2050), op(o, a, b, c)}, tags())
		}
	}
}

// P15.1: what the devices, or the processor, tell is a number.
func TestP15_1Asked(t *testing.T) {
	for _, o := range []int{api.In, api.Gtm, api.Gcs, api.Gfa, api.Gst} {
		for a := range 16 {
			follows(t, "all else places", append(places(), op(o, a, 0, 0)), all(a))
			follows(t, "alone", []line{la(a, 2050), op(o, a, 0, 0)}, tags())
			follows(t, "of a number", append(places(a), op(o, a, 0, 0)), all(a))
		}
	}
	for a := range 16 {
		b := (a + 5) % 16
		follows(t, "brd", append(places(b), op(api.Brd, a, b, 0)), all(a, b))
		follows(t, "brd into itself", append(places(b), op(api.Brd, b, b, 0)), all(b))
		follows(t, "brd alone", []line{la(a, 2050), op(api.Brd, a, b, 0)}, tags())
	}
}

// P15.1: a number that was a place's, when it was asked for, is one: a key, a sector, the address of a fault.
func TestP15_1AskedPlaces(t *testing.T) {
	c := coded(t, la(3, 2050), op(api.In, 3, 0, 0), op(api.Jr, 3, 0, 0))
	run(t, c, 1)
	press(t, c, 2050)
	goes(t, "in", c, tags())
	breaks(t, "a key as a place", c, check.NotCode)
	c = coded(t, li(3, 2050), op(api.Bwr, 4, 3, 0), op(api.Brd, 5, 4, 0), op(api.Jr, 5, 0, 0))
	run(t, c, 3)
	breaks(t, "a sector as a place", c, check.NotCode)
}

// P15.1 La, Li: whether the second word is one of Places: its place in code, whatever the word is.
func TestP15_1Brought(t *testing.T) {
	for _, o := range []int{api.La, api.Li} {
		for _, n := range []uint32{0, 1, 2048, 2049, 2050, 4095, most} {
			for a := range 16 {
				follows(t, "a place", append(places(a), placed(two(o, a, n))), all())
				follows(t, "a number", append(places(), two(o, a, n)), all(a))
				follows(t, "a place alone", []line{placed(two(o, a, n))}, tags(a))
				follows(t, "a number alone", []line{two(o, a, n)}, tags())
			}
		}
	}
	// Places that name words around the second one, and that word as a number
	i := image(20, op(api.Nop, 0, 0, 0), two(api.La, 3, 2050), op(api.Nop, 0, 0, 0))
	i.Places = []int{0, 1, 3}
	c := made(t, i)
	run(t, c, 1)
	goes(t, "words around it", c, tags())
	i.Places = []int{2}
	c = made(t, i)
	run(t, c, 1)
	goes(t, "the second word", c, tags(3))
}

// P15.1 La, Li: wherever they stand: at edges of pages, at the end of code, where a data word of that number is named.
func TestP15_1BroughtAnywhere(t *testing.T) {
	for _, n := range []int{14, 15, 16, 17, 30, 31, 32, 100, 1000, 2040} {
		for _, is := range []bool{false, true} {
			var lines []line
			for range n {
				lines = append(lines, hidden(word(0)))
			}
			i := image(2048, append(lines, two(api.La, 3, 9), op(api.Nop, 0, 0, 0))...)
			i.Entry = base + uint32(n)
			for k := range 2048 {
				if k != n+1 == !is && k < len(i.Code) {
					i.Places = append(i.Places, k)
				}
				if !is {
					i.DataRefs = append(i.DataRefs, k)
				}
			}
			c := madeOf(t, i, 200)
			if is {
				goes(t, "a place", c, tags(3))
			} else {
				goes(t, "a number", c, tags())
			}
		}
	}
}

// P15.1 La, Li: a second word that stands behind the last word of code is a number.
func TestP15_1BroughtBehind(t *testing.T) {
	i := image(20, op(api.Nop, 0, 0, 0), line{words: []uint32{w(api.La, 3, 0, 0)}})
	i.Places = []int{0, 1}
	c := made(t, i)
	run(t, c, 1)
	goes(t, "la", c, tags())
}

// P15.1 Call: register 15 is a place, whatever it was, and no other register.
func TestP15_1Call(t *testing.T) {
	follows(t, "call", []line{two(api.Call, 0, 2050)}, tags(15))
	follows(t, "call from a number", append(places(15), two(api.Call, 0, 2080)), all())
	follows(t, "call from a place", append(places(), two(api.Call, 0, 2080)), all())
	follows(t, "call alone", append(places(0, 1, 2, 3, 4, 5, 6, 7, 8, 9, 10, 11, 12, 13, 14, 15), two(api.Call, 0, 2080)), tags(15))
}

// P15.1: what does none of these leaves all tags as they were, register 0's too, where there is no register A.
func TestP15_1Left(t *testing.T) {
	for _, l := range []line{
		op(api.Nop, 0, 0, 0), op(api.Br, 0, 0, 1), two(api.Jmp, 0, 2080), op(api.Rti, 0, 0, 0), op(api.Sync, 0, 0, 0), op(api.Cli, 0, 0, 0), op(api.Sti, 0, 0, 0), op(api.Jr, 3, 0, 0), op(api.Stv, 3, 0, 0),
	} {
		follows(t, "all", append(places(), l), all())
	}
	for _, l := range []line{
		op(api.Brz, 5, 0, 1), op(api.Brn, 5, 0, 1), two(api.Jz, 5, 2080), two(api.Jn, 5, 2080), op(api.Tmr, 5, 0, 0), op(api.Sst, 5, 0, 0), op(api.Stv, 5, 0, 0),
		op(api.Out, 5, 0, 0), op(api.Bwr, 5, 6, 0), op(api.Spte, 5, 6, 0), op(api.Bwr, 5, 5, 0), op(api.Halt, 5, 0, 0), op(api.St, 5, 6, 0), op(api.St, 3, 6, 0),
	} {
		follows(t, "all but two", append(places(5, 6), l), all(5, 6))
	}
}

// P15.1 Stv: TV is a place, as register A is: what becomes of that register behind it counts for nothing.
func TestP15_1StvTags(t *testing.T) {
	c := coded(t, la(3, 2054), op(api.Stv, 3, 0, 0), li(3, 0), op(api.Ld, 1, 3, 255), op(api.Gcs, 3, 0, 0))
	run(t, c, 4)
	goes(t, "a fault that a place takes", c, tags())
	c = coded(t, la(3, 2055), op(api.Stv, 3, 0, 0), op(api.Stv, 4, 0, 0), la(4, 2050), op(api.Ld, 1, 5, 255))
	run(t, c, 4)
	over(t, "TV is 0 again", c, api.Seen{Kind: api.SeenFault, A: api.CausePage})
	c = coded(t, op(api.Stv, 4, 0, 0), la(3, 2053), op(api.Stv, 3, 0, 0), op(api.Ld, 1, 5, 255), op(api.Gcs, 6, 0, 0))
	run(t, c, 5)
	if got := c.Machine().CPU().R[6]; got != api.CausePage {
		t.Errorf("the cause is %d", got)
	}
}
