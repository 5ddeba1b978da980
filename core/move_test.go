package core_test

import (
	"testing"

	"facade/api"
	"facade/core"
)

// moving is a space with an instruction at 2050, some pages of data, of which no two words are alike, and these rights.
func moving(t *testing.T, rights uint32, i api.Instr, pages ...int) *space {
	t.Helper()
	s := ready(t, 2050, i).give(rights, pages...)
	for _, p := range pages {
		for k := range uint32(16) {
			s.put(uint32(p)*16+k, 0x10001*(uint32(p)*16+k+1))
		}
	}
	return s
}

// load and store are Ld and St of a register by register 2 and a distance.
func load(a, c int) api.Instr  { return api.Instr{Op: api.Ld, A: a, B: 2, C: c} }
func store(a, c int) api.Instr { return api.Instr{Op: api.St, A: a, B: 2, C: c} }

// from is a processor at 2050 whose register 2 is a word.
func from(c api.CPU, base uint32) api.CPU {
	c.PC, c.R[2] = 2050, base
	return c
}

// lost is a CausePage of an instruction's own word.
func lost(i api.Instr, addr uint32) core.Stop {
	return core.Stop{Cause: api.CausePage, Addr: addr, In: i, Len: 1}
}

// way is a register's word, a distance, and the address that they make.
type way struct {
	base uint32
	c    int
	addr uint32
}

// ways are some: the distance has no sign, and sums go round.
func ways() []way {
	return []way{
		{0, 0, 0}, {0, 1, 1}, {0, 15, 15}, {0, 16, 16}, {0, 127, 127}, {0, 128, 128}, {0, 255, 255}, {1, 255, 256}, {5, 250, 255}, {17, 111, 128},
		{most, 1, 0}, {most, 2, 1}, {most, 128, 127}, {most, 255, 254}, {most - 254, 255, 0}, {most - 127, 128, 0}, {most - 126, 255, 128}, {high, 0, high}, {high - 1, 1, high},
		{2047, 0, 2047}, {2047, 1, 2048}, {last, 0, last}, {last - 255, 255, last}, {last, 1, last + 1}, {last + 1, 0, last + 1}, {last - 254, 255, last + 1}, {most, 0, most}, {most - 255, 255, most}, {500, 0, 500}, {500, 255, 755},
	}
}

// there are the pages of which some of the ways have an address.
func there() []int { return []int{0, 1, 7, 8, 15, 16, 127, 255} }

func isThere(addr uint32) bool {
	for _, p := range there() {
		if addr/16 == uint32(p) {
			return true
		}
	}
	return addr/16 == 128
}

// P7.2 Ld: register A is the word there, of everybody who may read it; where there is no place, it is told.
func TestP7_2Ld(t *testing.T) {
	for _, x := range ways() {
		i := load(7, x.c)
		s := moving(t, use, i, there()...)
		for _, c := range standing(2050) {
			c = from(c, x.base)
			for _, user := range []bool{false, true} {
				if isThere(x.addr) {
					s.checkOnce("a load", c, user, behind(c, i, 7, s.get(x.addr)), good(i))
				} else {
					s.checkOnce("a load of nothing", c, user, c, lost(i, x.addr))
				}
			}
		}
	}
}

// P7.2 St: the word there is register A, and no other is another; where there is no place, it is told.
func TestP7_2St(t *testing.T) {
	for _, x := range ways() {
		i := store(7, x.c)
		for _, c := range standing(2050) {
			c = from(c, x.base)
			c.R[7] += 77
			for _, user := range []bool{false, true} {
				s := moving(t, use|write, i, there()...)
				switch {
				case !isThere(x.addr):
					s.checkOnce("a store into nothing", c, user, c, lost(i, x.addr))
				case x.addr/16 == 128:
					s.checkOnce("a store where none may be", c, user, c, lost(i, x.addr))
				default:
					s.checkOnce("a store", c, user, behind(c, i, 7, c.R[7]), good(i), x.addr, c.R[7])
				}
			}
		}
	}
}

// P7.2 Ld, St: each right of the page, for the supervisor and for a user: W only counts for St, U only for a user.
func TestP7_2MoveRights(t *testing.T) {
	for _, rights := range []uint32{0, write, use, use | write} {
		for _, user := range []bool{false, true} {
			c := from(unlike(2050, true, false), 32)
			ld, st := load(7, 3), store(7, 3)
			s := moving(t, rights, ld, 2)
			if user && rights&use == 0 {
				s.checkOnce("a load of none of a user's", c, user, c, lost(ld, 35))
			} else {
				s.checkOnce("a load", c, user, behind(c, ld, 7, s.get(35)), good(ld))
			}
			s = moving(t, rights, st, 2)
			if user && rights&use == 0 || rights&write == 0 {
				s.checkOnce("a store that may not be", c, user, c, lost(st, 35))
			} else {
				s.checkOnce("a store", c, user, behind(c, st, 7, c.R[7]), good(st), 35, c.R[7])
			}
		}
	}
}

// P7.2 Ld, St: any registers, the same one as A and B too; what was stored is loaded again.
func TestP7_2StoredAndLoaded(t *testing.T) {
	for a := range api.Regs {
		for b := range api.Regs {
			for _, user := range []bool{false, true} {
				st, ld := api.Instr{Op: api.St, A: a, B: b, C: 9}, api.Instr{Op: api.Ld, A: a, B: b, C: 9}
				s := moving(t, use|write, st, 2)
				s.put(2051, words(ld)...)
				c := unlike(2050, true, true)
				c.R[b] = 30
				s.checkOnce("stored", c, user, behind(c, st, a, c.R[a]), good(st), 39, c.R[a])
				next, _ := core.Once(s.m, root, c, user)
				other := next
				if a != b {
					other.R[a] = 5
				}
				s.checkOnce("loaded", other, user, behind(next, ld, a, c.R[a]), good(ld))
				s.checkOnce("loaded again", other, user, behind(next, ld, a, c.R[a]), good(ld))
			}
		}
	}
}

// P7.2 Ld, St: words at their edges are moved as they are.
func TestP7_2MovedWords(t *testing.T) {
	for _, x := range edgeWords() {
		c := from(unlike(2050, false, true), 40)
		ld, st := load(1, 0), store(1, 0)
		moving(t, use, ld, 2).put(40, x).checkOnce("a word", c, true, behind(c, ld, 1, x), good(ld))
		c.R[1] = x
		moving(t, use|write, st, 2).checkOnce("a word", c, true, behind(c, st, 1, x), good(st), 40, x)
	}
}

// P7.2 Ld, St: from anywhere, PC behind it; of the last address it is one that is none.
func TestP7_2MoveAnywhere(t *testing.T) {
	for _, pc := range []uint32{0, 15, 2047, 2048, 2063, last} {
		for _, i := range []api.Instr{load(7, 1), store(7, 1)} {
			s := ready(t, pc, i).give(use|write, 9).put(150, 1234)
			c := unlike(pc, true, false)
			c.R[2] = 149
			if i.Op == api.Ld {
				s.checkOnce("a load", c, true, behind(c, i, 7, 1234), good(i))
			} else {
				s.checkOnce("a store", c, true, behind(c, i, 7, c.R[7]), good(i), 150, c.R[7])
			}
			c.R[2] = 3000
			s.checkOnce("of nothing", c, true, c, lost(i, 3001))
		}
	}
}

// P7.2 Ld: code is data too, where it stands.
func TestP7_2LoadOfItself(t *testing.T) {
	i := load(7, 2)
	c := from(unlike(2050, true, false), 2048)
	ready(t, 2050, i).checkOnce("itself", c, true, behind(c, i, 7, words(i)[0]), good(i))
}

// P7.2 St: into itself: what is told is the instruction as it was; afterwards another one stands there.
func TestP7_2StoreIntoItself(t *testing.T) {
	i := store(7, 2)
	s := ready(t, 2050, i)
	s.allow(use|write, 128)
	c := from(unlike(2050, true, false), 2048)
	c.R[7] = w(api.Halt, 3, 0, 0)
	s.checkOnce("itself", c, true, behind(c, i, 7, c.R[7]), good(i), 2050, c.R[7])
	halt := api.Instr{Op: api.Halt, A: 3}
	s.checkOnce("the other one", c, true, c, core.Stop{Cause: api.CausePriv, In: halt, Len: 1})
}

// P7.2 St: into a table that a page shows: then the tables are others.
func TestP7_2StoreIntoTables(t *testing.T) {
	i := store(7, 0)
	s := ready(t, 2050, i).give(use|write, 1).put(16, 50, 51)
	s.frames[2] = root + 1 // of pages 0 to 15
	s.allow(use|write, 2)
	c := from(unlike(2050, true, false), 32+5)
	c.R[7] = uint32(s.frames[1])<<8 | plain | use
	s.checkOnce("a table's word", c, true, behind(c, i, 7, c.R[7]), good(i), 37, c.R[7])
	ld := load(9, 1)
	s.put(2050, words(ld)...)
	c.R[2] = 5 * 16
	s.checkOnce("by the new entry", c, true, behind(c, ld, 9, 51), good(ld))
}

// P7.2 Ld, St: a frame that memory hasn't, and an entry that may not be, are no places.
func TestP7_2MoveByNoEntry(t *testing.T) {
	for _, entry := range []uint32{0, 63<<8 | write | use, 64<<8 | 7, 1023<<8 | 7, 1024<<8 | 7, 40<<8 | 15, most} {
		for _, i := range []api.Instr{load(7, 1), store(7, 1)} {
			s := moving(t, use|write, i, 2)
			s.word((root+1)*16+2, entry)
			c := from(unlike(2050, true, false), 32)
			s.checkOnce("no entry", c, false, c, lost(i, 33))
			s.checkOnce("no entry", c, true, c, lost(i, 33))
		}
	}
}
