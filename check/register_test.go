package check_test

import (
	"strings"
	"testing"

	"facade/api"
	"facade/check"
)

// use is an instruction, the operands that it has as registers, those of them that may not hold a place of code, and
// what it breaks where one does.
type use struct {
	op      int
	has     string
	numbers string
	broken  int
}

// uses are all instructions but Jr and Stv, which may hold nothing else, and Hc.
func uses() []use {
	var l []use
	for _, op := range []int{api.Add, api.Sub, api.And, api.Or, api.Xor, api.Shl, api.Shr, api.Lt, api.Eq, api.Mul} {
		l = append(l, use{op, "abc", "bc", check.Mixed})
	}
	for _, op := range []int{api.Brz, api.Brn, api.Jz, api.Jn, api.Tmr, api.Sst} {
		l = append(l, use{op, "a", "a", check.Mixed})
	}
	for _, op := range []int{api.Nop, api.Br, api.Jmp, api.Call, api.Rti, api.Sync, api.Cli, api.Sti} {
		l = append(l, use{op, "", "", 0})
	}
	for _, op := range []int{api.Li, api.La, api.In, api.Gtm, api.Gcs, api.Gfa, api.Gst} {
		l = append(l, use{op, "a", "", 0})
	}
	return append(l,
		use{api.Halt, "a", "a", check.Told}, use{api.Out, "a", "a", check.Told}, use{api.Bwr, "ab", "ab", check.Told},
		use{api.Brd, "ab", "b", check.Mixed}, use{api.Spte, "ab", "ab", check.Mixed},
		use{api.Ld, "ab", "b", check.Mixed}, use{api.St, "ab", "b", check.Mixed}, use{api.Mov, "ab", "", 0},
	)
}

// line is the instruction with these registers, as far as it has them. Where C is a number, it is 3.
func (u use) line(a, b, c int) line {
	if !strings.Contains(u.has, "a") {
		a = 0
	}
	if !strings.Contains(u.has, "b") {
		b = 0
	}
	if !strings.Contains(u.has, "c") {
		c = 0
	}
	switch u.op {
	case api.Ld, api.St, api.Br, api.Brz, api.Brn:
		c = 3
	case api.Li, api.La, api.Jmp, api.Jz, api.Jn, api.Call:
		return two(u.op, a, 2051)
	}
	return op(u.op, a, b, c)
}

// takes tells whether it takes a register for a number.
func (u use) takes(reg, a, b, c int) bool {
	return strings.Contains(u.numbers, "a") && reg == a || strings.Contains(u.numbers, "b") && reg == b || strings.Contains(u.numbers, "c") && reg == c
}

// P15.1: each instruction, each of its registers, each register tagged alone.
func TestP15_1Registers(t *testing.T) {
	for _, u := range uses() {
		for _, x := range [][3]int{{5, 6, 7}, {15, 0, 8}, {0, 15, 14}, {7, 5, 15}, {9, 9, 10}, {9, 10, 9}, {10, 9, 9}, {1, 2, 0}, {3, 3, 3}} {
			for reg := range 16 {
				c := coded(t, la(reg, 2050), u.line(x[0], x[1], x[2]), op(api.Nop, 0, 0, 0))
				goes(t, "la", c, tags(reg))
				if u.takes(reg, x[0], x[1], x[2]) {
					breaks(t, "operation", c, u.broken)
				} else {
					run(t, c, 1)
				}
				if t.Failed() {
					t.Fatalf("operation %d of registers %v, register %d tagged", u.op, x, reg)
				}
			}
		}
	}
}

// P15.1: the same, by a place that isn't one as a number either: what counts is the tag, not the word.
func TestP15_1RegistersByTag(t *testing.T) {
	for _, u := range uses() {
		for _, n := range []uint32{0, 1, 5, 2050, 4096, most} {
			c := coded(t, li(5, n&15), li(6, n&15), li(7, n), u.line(5, 6, 7))
			run(t, c, 4) // numbers, whatever they are
			for _, reg := range []int{5, 6, 7} {
				c := coded(t, la(reg, n), u.line(5, 6, 7))
				goes(t, "la", c, tags(reg))
				if u.takes(reg, 5, 6, 7) {
					breaks(t, "operation", c, u.broken)
				} else {
					run(t, c, 1)
				}
			}
			if t.Failed() {
				t.Fatalf("operation %d of %#x", u.op, n)
			}
		}
	}
}

// P15.1: both of two registers, and all of them, tagged.
func TestP15_1RegistersAll(t *testing.T) {
	for _, u := range uses() {
		var lines []line
		for reg := range 16 {
			lines = append(lines, la(reg, 2051))
		}
		c := coded(t, append(lines, u.line(5, 6, 7))...)
		run(t, c, 16)
		if u.numbers != "" {
			breaks(t, "operation", c, u.broken)
		} else {
			run(t, c, 1)
		}
		if t.Failed() {
			t.Fatalf("operation %d", u.op)
		}
	}
}

// P15.1 NotCode: Jr goes to a place of code alone, whatever number it were.
func TestP15_1Jr(t *testing.T) {
	for reg := range 16 {
		for _, n := range []uint32{0, 2048, 2050, 2052, most} {
			c := coded(t, li(reg, n), op(api.Jr, reg, 0, 0))
			run(t, c, 1)
			breaks(t, "a number", c, check.NotCode)
			c = coded(t, la(reg, n), op(api.Jr, reg, 0, 0))
			run(t, c, 2)
			if got := c.Machine().CPU().PC; got != n {
				t.Errorf("it is at %d, want %d", got, n)
			}
		}
		c := coded(t, la((reg+1)%16, 2050), op(api.Jr, reg, 0, 0))
		run(t, c, 1)
		breaks(t, "another register's place", c, check.NotCode)
	}
}

// P15.1 NotCode: Stv takes a place of code, or 0.
func TestP15_1Stv(t *testing.T) {
	for reg := range 16 {
		for _, n := range []uint32{1, 2048, 2050, 2052, 4095, 1 << 31, most} {
			c := coded(t, li(reg, n), op(api.Stv, reg, 0, 0))
			run(t, c, 1)
			breaks(t, "a number", c, check.NotCode)
		}
		for _, n := range []uint32{0, 1, 2050, most} {
			c := coded(t, la(reg, n), op(api.Stv, reg, 0, 0))
			goes(t, "la", c, tags(reg))
			goes(t, "a place", c, tags(reg))
		}
		c := coded(t, li(reg, 0), la((reg+1)%16, 2050), op(api.Stv, reg, 0, 0))
		run(t, c, 3) // 0, though it is no place
		c = coded(t, la((reg+1)%16, 2050), li(reg, 7), op(api.Stv, reg, 0, 0))
		run(t, c, 2)
		breaks(t, "another register's place", c, check.NotCode)
	}
}

// The chapter's example: a kernel that puts out what Call left in register 15: Told.
func TestP15_1Example(t *testing.T) {
	c := coded(t, two(api.Call, 0, 2050), op(api.Out, 15, 0, 0))
	goes(t, "call", c, tags(15))
	breaks(t, "out", c, check.Told)
}
