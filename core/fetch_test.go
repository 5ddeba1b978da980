package core_test

import (
	"math"
	"testing"

	"facade/api"
	"facade/core"
	"facade/isa"
)

// P7.1: each instruction, wherever it stands in a page, for the supervisor and a user, with its second word at its edges.
func TestP7_1Fetch(t *testing.T) {
	for _, f := range forms() {
		s := blank(t, 64).give(use, 0, 1, 127, 128, 129)
		for _, imm := range edgeWords() {
			for _, pc := range []uint32{0, 1, 7, 2032, 2040, 2048, 2055, 2062, 2064, 2078} {
				i := f.one(7, 2, 5, imm)
				s.put(pc, words(i)...)
				s.checkBoth("anywhere", pc, good(i))
			}
		}
	}
}

// P7.1: the operands at their edges.
func TestP7_1Operands(t *testing.T) {
	for _, f := range forms() {
		s := blank(t, 64).give(use, 128)
		for _, a := range []int{0, 1, 15} {
			for _, b := range []int{0, 1, 15} {
				for _, c := range []int{0, 1, 15, 127, 128, 255} {
					if f.has[2] == 'r' && c > 15 {
						continue
					}
					i := f.one(a, b, c, most)
					s.put(2048, words(i)...)
					s.checkBoth("operands", 2048, good(i))
				}
			}
		}
	}
}

// P7.1: behind the last word of a page the next one's first stands, in another frame.
func TestP7_1OverAPage(t *testing.T) {
	for _, i := range all() {
		for _, pc := range []uint32{15, 2047, 2063, 4079} {
			s := blank(t, 64).give(use, int(pc/16), int(pc/16)+1)
			s.put(pc, words(i)...)
			s.checkBoth("over the end of a page", pc, good(i))
		}
	}
}

// P7.1: the rights: only a user asks for U, nobody for W.
func TestP7_1Rights(t *testing.T) {
	for _, i := range all() {
		s := blank(t, 64).give(0, 128).put(2050, words(i)...)
		for _, rights := range []uint32{0, write, use, use | write} {
			s.allow(rights, 128)
			s.checkFetch("of the supervisor", 2050, false, good(i))
			if rights&use != 0 {
				s.checkFetch("of a user", 2050, true, good(i))
			} else {
				s.checkFetch("not of a user", 2050, true, page(2050))
			}
		}
	}
}

// P7.1: where there is no place for pc.
func TestP7_1NoPlace(t *testing.T) {
	s := blank(t, 64).give(use|write, 0, 128, 255)
	for _, p := range []int{0, 128, 255} {
		for k := range uint32(16) {
			s.put(uint32(p)*16+k, w(api.Nop, 0, 0, 0))
		}
	}
	for _, pc := range []uint32{16, 17, 2047, 2064, 4079, 4096, 4097, 8192, 4096 + 2048, 1 << 16, 1<<16 + 2048, high, high + 2048, most - 15, most - 1, most} {
		s.checkBoth("no page", pc, page(pc))
	}
	for _, pc := range []uint32{0, 15, 2048, 2063, 4080, 4095} {
		s.checkBoth("a page", pc, good(api.Instr{Op: api.Nop}))
	}
	s.take(128)
	s.checkBoth("a page that was taken", 2048, page(2048))
	s.word((root+1)*16+128, 1023<<8|plain|use)
	s.checkBoth("a frame that is none", 2048, page(2048))
	s.word((root+1)*16+128, 40<<8|plain|use|8)
	s.checkBoth("a word that is no entry's", 2048, page(2048))
	s.word(root*16, 0)
	s.checkBoth("a part that was taken", 0, page(0))
}

// P7.1: root is the first level, whatever else memory holds; a root that is none has no place for anything.
func TestP7_1Root(t *testing.T) {
	s := blank(t, 64).give(use, 128).put(2048, w(api.Nop, 0, 0, 0))
	for _, root := range []int{-1, -16, 0, 1, root + 1, 63, 64, 65, 1023, 1024, 1 << 32, math.MinInt, math.MaxInt} {
		for _, user := range []bool{false, true} {
			s.checkFetchBy("another root", root, 2048, user, page(2048))
		}
	}
	s.checkBoth("the root", 2048, good(api.Instr{Op: api.Nop}))
}

// nones are words that are none, whatever stands behind them.
func nones() []uint32 {
	is := map[int]form{}
	for _, f := range forms() {
		is[f.op] = f
	}
	var l []uint32
	for op := range 256 {
		f, there := is[op]
		if !there {
			l = append(l, w(op, 0, 0, 0), w(op, 1, 2, 3))
			continue
		}
		for k, shift := range []int{16, 8, 0} {
			switch f.has[k] {
			case 'r':
				l = append(l, w(op, 0, 0, 0)|16<<shift, w(op, 0, 0, 0)|255<<shift)
			case '-':
				l = append(l, w(op, 0, 0, 0)|1<<shift, w(op, 0, 0, 0)|255<<shift)
			}
		}
	}
	return append(l, most, high, high+1)
}

// P7.1: a word that is none, by itself: also where behind it nothing is mapped, or nothing of a user's.
func TestP7_1Bad(t *testing.T) {
	s := blank(t, 64).give(use, 0, 128, 130, 255).give(0, 131)
	for _, x := range nones() {
		for _, pc := range []uint32{0, 2048, 2055, 2063, 2095, last} {
			s.put(pc, x)
			s.checkBoth("none", pc, bad())
		}
		s.put(2048, x, 5)
		s.checkBoth("none, and a word", 2048, bad())
		s.put(2048, x, w(api.Nop, 0, 0, 0))
		s.checkBoth("none, and an instruction", 2048, bad())
	}
}

// P7.1: where a place misses, it counts for nothing what stands there.
func TestP7_1BadWhereThereIsNone(t *testing.T) {
	s := blank(t, 64).give(0, 128).put(2048, most)
	s.checkFetch("of the supervisor", 2048, false, bad())
	s.checkFetch("of a user", 2048, true, page(2048))
}

// P7.1: an instruction of two words without a place for the second; one of one word needs none.
func TestP7_1NoSecond(t *testing.T) {
	for _, i := range all() {
		for _, pc := range []uint32{15, 2047, 2063, 4079, last} {
			s := blank(t, 64).give(use, int(pc/16)).put(pc, words(i)[0])
			if isTwo(i.Op) {
				s.checkBoth("no page behind it", pc, page(pc+1))
			} else {
				s.checkBoth("no page behind it", pc, good(i))
			}
			if pc == last {
				continue
			}
			s.give(0, int(pc/16)+1).put(pc, words(i)...)
			s.checkFetch("the second of the supervisor", pc, false, good(i))
			if isTwo(i.Op) {
				s.checkFetch("the second of the supervisor", pc, true, page(pc+1))
			} else {
				s.checkFetch("the second of the supervisor", pc, true, good(i))
			}
		}
	}
}

// P7.1: the last addresses of the space.
func TestP7_1Last(t *testing.T) {
	for _, i := range all() {
		s := blank(t, 64).give(use, 0, 255).put(0, 77) // the word at 0 is not the one behind the last
		s.put(last+1-size(i), words(i)...)
		s.checkBoth("as the last", last+1-size(i), good(i))
		s.put(last, words(i)[0])
		if isTwo(i.Op) {
			s.checkBoth("at the last", last, page(last+1))
		} else {
			s.checkBoth("at the last", last, good(i))
		}
	}
}

// P7.1: every word is what isa.Of says of it.
func TestP7_1EveryWord(t *testing.T) {
	s := blank(t, 64).give(use, 128)
	n := []int{0, 1, 7, 15, 16, 17, 128, 255}
	for op := range 256 {
		for k := range len(n) * len(n) * len(n) {
			x := w(op, n[k%8], n[k/8%8], n[k/64])
			s.put(2048, x, 1234)
			in, got := core.Fetch(s.m, root, 2048, k%2 == 0)
			i, is := isa.Of(x, 1234)
			if want := good(i); is && (in != i || got != want) {
				t.Fatalf("Fetch of %#x: %v, %+v, want %+v", x, in, got, want)
			}
			if !is && (in != api.Instr{} || got != bad()) {
				t.Fatalf("Fetch of %#x: %v, %+v", x, in, got)
			}
		}
	}
}

// P7.1: what is answered is of the words as they are now.
func TestP7_1Now(t *testing.T) {
	s := blank(t, 64).give(use, 128).put(2048, w(api.Li, 3, 0, 0), 8)
	s.checkBoth("at first", 2048, good(api.Instr{Op: api.Li, A: 3, Imm: 8}))
	other := &space{t, s.m.Clone(), s.frames, s.next}
	s.put(2049, 9)
	s.checkBoth("another second word", 2048, good(api.Instr{Op: api.Li, A: 3, Imm: 9}))
	s.put(2048, w(api.Nop, 0, 0, 0))
	s.checkBoth("another first word", 2048, good(api.Instr{Op: api.Nop}))
	s.put(2048, 0)
	s.checkBoth("none", 2048, bad())
	other.checkBoth("the copy", 2048, good(api.Instr{Op: api.Li, A: 3, Imm: 8}))
}
