package core_test

import (
	"testing"

	"facade/alu"
	"facade/api"
	"facade/core"
)

// ready is a space with an instruction at pc, its pages there for everybody, to be read.
func ready(t *testing.T, pc uint32, i api.Instr) *space {
	t.Helper()
	s := blank(t, 64).give(use, int(pc/16))
	if pc%16 == 15 && isTwo(i.Op) {
		s.give(use, int(pc/16)+1)
	}
	return s.put(pc, words(i)...)
}

// places are where an instruction may stand: the edges of the space, of pages, of code, and between.
func places(i api.Instr) []uint32 {
	return []uint32{0, 1, 15, 16, 2047, 2048, 2055, 2063, 4080, last + 1 - size(i)}
}

// behind is a processor that went on to the address behind the instruction, and has register a as that.
func behind(c api.CPU, i api.Instr, a int, word uint32) api.CPU {
	c.PC += size(i)
	c.R[a] = word
	return c
}

// P7.2, the chapter's example: Once of Nop: PC one more.
func TestP7_2Example(t *testing.T) {
	s := ready(t, 2048, api.Instr{Op: api.Nop})
	for _, user := range []bool{false, true} {
		s.checkOnce("nop", api.CPU{PC: 2048}, user, api.CPU{PC: 2049}, core.Stop{In: api.Instr{Op: api.Nop}, Len: 1})
	}
}

// P7.2: each instruction that reckons, written out, for everybody, anywhere: register A, PC, and nothing else.
func TestP7_2Reckons(t *testing.T) {
	for _, x := range []struct {
		i    api.Instr
		b, c uint32 // registers 2 and 3
		a    uint32 // register 7, behind it
	}{
		{api.Instr{Op: api.Mov, A: 7, B: 2}, 5, 6, 5},
		{api.Instr{Op: api.Add, A: 7, B: 2, C: 3}, most, 2, 1},
		{api.Instr{Op: api.Sub, A: 7, B: 2, C: 3}, 1, 2, most},
		{api.Instr{Op: api.And, A: 7, B: 2, C: 3}, 12, 10, 8},
		{api.Instr{Op: api.Or, A: 7, B: 2, C: 3}, 12, 10, 14},
		{api.Instr{Op: api.Xor, A: 7, B: 2, C: 3}, 12, 10, 6},
		{api.Instr{Op: api.Shl, A: 7, B: 2, C: 3}, 3, 33, 6},
		{api.Instr{Op: api.Shr, A: 7, B: 2, C: 3}, high, 31, 1},
		{api.Instr{Op: api.Lt, A: 7, B: 2, C: 3}, 1, most, 1},
		{api.Instr{Op: api.Lt, A: 7, B: 2, C: 3}, most, 1, 0},
		{api.Instr{Op: api.Eq, A: 7, B: 2, C: 3}, 4, 4, 1},
		{api.Instr{Op: api.Eq, A: 7, B: 2, C: 3}, 4, 5, 0},
		{api.Instr{Op: api.Mul, A: 7, B: 2, C: 3}, 1 << 16, 1<<16 + 3, 3 << 16},
		{api.Instr{Op: api.Li, A: 7, Imm: most}, 1, 2, most},
		{api.Instr{Op: api.La, A: 7, Imm: 2100}, 1, 2, 2100},
	} {
		for _, pc := range places(x.i) {
			s := ready(t, pc, x.i)
			for _, c := range standing(pc) {
				c.R[2], c.R[3] = x.b, x.c
				s.checkOnce("written out", c, false, behind(c, x.i, 7, x.a), good(x.i))
				s.checkOnce("written out", c, true, behind(c, x.i, 7, x.a), good(x.i))
			}
		}
	}
}

// reckoning are the forms of the instructions that only reckon.
func reckoning() []form {
	var l []form
	for _, f := range forms() {
		switch f.op {
		case api.Nop, api.Mov, api.Add, api.Sub, api.And, api.Or, api.Xor, api.Shl, api.Shr, api.Lt, api.Eq, api.Mul, api.Li, api.La:
			l = append(l, f)
		}
	}
	return l
}

// P7.2: what reckons does with any registers what alu.Do says.
func TestP7_2ReckonsAsDo(t *testing.T) {
	for _, f := range reckoning() {
		for _, r := range [][3]int{{7, 2, 3}, {0, 0, 0}, {15, 15, 15}, {2, 2, 3}, {3, 2, 3}, {4, 0, 15}} {
			i := f.one(r[0], r[1], r[2], 1234)
			s := ready(t, 2050, i)
			for _, b := range edgeWords() {
				c := unlike(2050, true, false)
				c.R[r[1]], c.R[r[2]] = b, b/2+1
				want := c
				want.PC += size(i)
				want.R, _ = alu.Do(i, c.R)
				s.checkOnce("as Do", c, b%2 == 0, want, good(i))
			}
		}
	}
}

// jump is one, the register that it asks, and where it has to go: the address behind it, if it isn't taken.
type jump struct {
	i     api.Instr
	asked uint32
	taken bool
}

// short are branches of distance c, taken and not taken.
func short(c int) []jump {
	br, brz, brn := api.Instr{Op: api.Br, C: c}, api.Instr{Op: api.Brz, A: 4, C: c}, api.Instr{Op: api.Brn, A: 4, C: c}
	return []jump{{br, 0, true}, {br, 1, true}, {brz, 0, true}, {brz, 1, false}, {brz, high, false}, {brz, most, false}, {brn, 0, false}, {brn, 1, true}, {brn, high, true}, {brn, most, true}}
}

// long are jumps to an address, taken and not taken. Of Call see calls.
func long(to uint32) []jump {
	jmp, jz, jn := api.Instr{Op: api.Jmp, Imm: to}, api.Instr{Op: api.Jz, A: 4, Imm: to}, api.Instr{Op: api.Jn, A: 4, Imm: to}
	return []jump{{jmp, 0, true}, {jmp, 1, true}, {jz, 0, true}, {jz, 1, false}, {jz, high, false}, {jz, most, false}, {jn, 0, false}, {jn, 1, true}, {jn, high, true}, {jn, most, true}}
}

// checkJumps holds jumps at pc, of each processor and of everybody: only PC is another.
func checkJumps(t *testing.T, pc, to uint32, l []jump) {
	t.Helper()
	for _, x := range l {
		s := ready(t, pc, x.i)
		for _, c := range standing(pc) {
			c.R[4] = x.asked
			want := c
			want.PC = to
			if !x.taken {
				want.PC = pc + size(x.i)
			}
			s.checkOnce("a jump", c, false, want, good(x.i))
			s.checkOnce("a jump", c, true, want, good(x.i))
		}
	}
}

// P7.2 Br, Brz, Brn: so far from where they stand, forth and back, at any distance.
func TestP7_2Branches(t *testing.T) {
	for _, x := range []struct {
		pc uint32
		c  int
		to uint32
	}{
		{2100, 0, 2100}, {2100, 1, 2101}, {2100, 2, 2102}, {2100, 126, 2226}, {2100, 127, 2227},
		{2100, 128, 1972}, {2100, 129, 1973}, {2100, 253, 2097}, {2100, 254, 2098}, {2100, 255, 2099},
		{2048, 255, 2047}, {2048, 128, 1920}, {15, 1, 16}, {16, 255, 15},
		{0, 255, most}, {0, 128, most - 127}, {5, 250, most}, {5, 251, 0}, {last, 1, last + 1}, {last, 127, last + 127}, {last, 128, last - 128},
	} {
		checkJumps(t, x.pc, x.to, short(x.c))
	}
}

// P7.2 Br: every distance.
func TestP7_2EveryDistance(t *testing.T) {
	for d := -128; d < 128; d++ {
		i := api.Instr{Op: api.Br, C: d & 255}
		c := unlike(2200, true, false)
		want := c
		want.PC = uint32(2200 + d)
		ready(t, 2200, i).checkOnce("a distance", c, d%2 == 0, want, good(i))
	}
}

// P7.2 Jmp, Jz, Jn: to any address, of a page that is there or not, from anywhere.
func TestP7_2LongJumps(t *testing.T) {
	for _, pc := range []uint32{0, 15, 2048, 2055, 2063, last - 1} {
		for _, to := range append(edgeWords(), pc, pc+1, pc+2) {
			checkJumps(t, pc, to, long(to))
		}
	}
}

// P7.2 Call: always; register 15 is the address behind it.
func TestP7_2Calls(t *testing.T) {
	for _, pc := range []uint32{0, 15, 2048, 2055, 2063, last - 1} {
		for _, to := range append(edgeWords(), pc, pc+2) {
			i := api.Instr{Op: api.Call, Imm: to}
			s := ready(t, pc, i)
			for _, c := range standing(pc) {
				want := c
				want.PC, want.R[15] = to, pc+2
				s.checkOnce("a call", c, false, want, good(i))
				s.checkOnce("a call", c, true, want, good(i))
			}
		}
	}
}

// P7.2 Jr: to register A, any of them, whatever it holds; 0 too.
func TestP7_2JumpsByRegister(t *testing.T) {
	for _, pc := range []uint32{0, 15, 2048, last} {
		for a := range api.Regs {
			i := api.Instr{Op: api.Jr, A: a}
			s := ready(t, pc, i)
			for _, to := range append(edgeWords(), pc, pc+1) {
				for _, c := range standing(pc) {
					c.R[a] = to
					want := c
					want.PC = to
					s.checkOnce("by a register", c, to%2 == 0, want, good(i))
				}
			}
		}
	}
}

// P7.2 Call, Jr: there and back again.
func TestP7_2CallAndBack(t *testing.T) {
	s := ready(t, 2062, api.Instr{Op: api.Call, Imm: 2100}).give(use, 131).put(2100, w(api.Jr, 15, 0, 0))
	c := unlike(2062, true, true)
	there, _ := core.Once(s.m, root, c, true)
	back, _ := core.Once(s.m, root, there, true)
	want := c
	want.PC, want.R[15] = 2064, 2064
	if back != want {
		t.Errorf("there and back: %+v, want %+v", back, want)
	}
}

// P7.2 Brz to Jn: each register may be the one that is asked, and no other is.
func TestP7_2AskedRegister(t *testing.T) {
	for a := range api.Regs {
		for _, x := range []struct {
			op   int
			zero bool
		}{{api.Brz, true}, {api.Brn, false}, {api.Jz, true}, {api.Jn, false}} {
			i := api.Instr{Op: x.op, A: a, C: 9}
			if isTwo(x.op) {
				i.C, i.Imm = 0, 2057
			}
			s := ready(t, 2048, i)
			for _, c := range []api.CPU{unlike(2048, true, false), {PC: 2048}} {
				others := c.R[(a+1)%api.Regs]
				for _, asked := range []uint32{0, 5} {
					c.R[a] = asked
					want := c
					want.PC = 2048 + size(i)
					if (asked == 0) == x.zero {
						want.PC = 2057
					}
					s.checkOnce("asked among registers that are "+map[bool]string{false: "not 0", true: "0"}[others == 0], c, a%2 == 0, want, good(i))
				}
			}
		}
	}
}

// P7.2: Trapping and Calling ones, of the supervisor and of a user; Silent ones of the supervisor: only told.
func TestP7_2Told(t *testing.T) {
	for _, f := range forms() {
		if f.op < api.Halt {
			continue
		}
		for _, r := range [][2]int{{7, 2}, {0, 15}, {15, 0}} {
			i := f.one(r[0], r[1], 0, 1234)
			want := core.Stop{Cause: api.CausePriv, In: i, Len: size(i)}
			if f.op == api.Hc {
				want.Cause = api.CauseCall
			}
			for _, pc := range places(i) {
				s := ready(t, pc, i)
				for _, c := range standing(pc) {
					s.checkOnce("told", c, false, c, want)
					if f.op < api.Cli || f.op == api.Hc {
						s.checkOnce("told", c, true, c, want)
					}
				}
			}
		}
	}
}

// P7.2: Silent ones of a user: PC behind, and nothing else but register A of Gst.
func TestP7_2Silent(t *testing.T) {
	for _, f := range forms() {
		if f.op < api.Cli || f.op == api.Hc {
			continue
		}
		for a := range api.Regs {
			i := f.one(a, 0, 0, 0)
			for _, pc := range places(i) {
				s := ready(t, pc, i)
				for _, c := range standing(pc) {
					want := c
					want.PC++
					if f.op == api.Gst {
						want.R[a] = 1
					}
					s.checkOnce("of a user", c, true, want, good(i))
				}
			}
		}
	}
}

// P7.2: nothing but the arguments tells what it does: again it does the same.
func TestP7_2Again(t *testing.T) {
	for _, i := range all() {
		s := ready(t, 2048, i).give(use|write, 0)
		for _, user := range []bool{false, true} {
			c := unlike(2048, true, false)
			c.R[2] = 4
			first, stop := core.Once(s.m, root, c, user)
			for range 3 {
				if got, again := core.Once(s.m, root, c, user); got != first || again != stop {
					t.Errorf("%v again: %+v, %+v, at first %+v, %+v", i, got, again, first, stop)
				}
			}
		}
	}
}
