package check_test

import (
	"testing"

	"facade/api"
	"facade/check"
)

// P15.1 OutOfMap: wherever a jump goes that is no instruction's beginning.
func TestP15_1OutOfMap(t *testing.T) {
	for _, to := range []uint32{0, 1, 16, 20, 32, 2047, 2049, 2051, 2053, 2054, 2055, 2063, 2064, 2065, 3000, 4095, 4096, 4097, 4098, 1<<16 + base, 1 << 31, 1<<31 + base, most - 2047, most - 1, most} {
		for _, l := range [][]line{
			{two(api.Jmp, 0, to), li(1, 5), hidden(op(api.Nop, 0, 0, 0))},
			{two(api.Call, 0, to), li(1, 5), hidden(op(api.Nop, 0, 0, 0))},
			{two(api.Jz, 5, to), li(1, 5), hidden(op(api.Nop, 0, 0, 0))},
			{two(api.Jn, 1, to), li(1, 5), hidden(op(api.Nop, 0, 0, 0))},
		} {
			c := coded(t, l...)
			run(t, c, 1)
			breaks(t, "a jump", c, check.OutOfMap)
		}
		c := coded(t, la(3, to), op(api.Jr, 3, 0, 0), hidden(op(api.Nop, 0, 0, 0)), hidden(op(api.Nop, 0, 0, 0)), hidden(op(api.Nop, 0, 0, 0)))
		run(t, c, 2)
		breaks(t, "jr", c, check.OutOfMap)
	}
	for _, l := range [][]line{{op(api.Br, 0, 0, 1)}, {op(api.Br, 0, 0, 0xff)}, {op(api.Br, 0, 0, 2)}, {op(api.Brz, 5, 0, 127)}, {op(api.Brn, 1, 0, 128)}, {op(api.Rti, 0, 0, 0)}} {
		c := coded(t, append(l, hidden(li(1, 5)))...)
		run(t, c, 1)
		breaks(t, "a short jump, or a way back", c, check.OutOfMap)
	}
}

// P15.1 OutOfMap: what stands behind an instruction has to be named, too, be it one or not, within code or behind it.
func TestP15_1Behind(t *testing.T) {
	for _, l := range [][]line{
		{op(api.Nop, 0, 0, 0)}, {li(1, 5)}, {op(api.Brn, 5, 0, 9)}, {op(api.Out, 1, 0, 0)},
		{op(api.Nop, 0, 0, 0), hidden(op(api.Nop, 0, 0, 0))}, {op(api.Nop, 0, 0, 0), hidden(word(0))}, {li(1, 5), hidden(two(api.Hc, 0, 7)), op(api.Nop, 0, 0, 0)},
	} {
		c := coded(t, l...)
		run(t, c, 1)
		breaks(t, "behind it", c, check.OutOfMap)
	}
	c := coded(t, at(t, base+16, two(api.Jmp, 0, base+15), hidden(word(0)))...)
	run(t, c, 1)
	breaks(t, "the last word of a page", c, check.OutOfMap)
}

// P15.1 OutOfMap: each start, and nothing else, is one; a second word that is named is one, too.
func TestP15_1Starts(t *testing.T) {
	for to := range 64 {
		lines := []line{two(api.Jmp, 0, uint32(base+to))}
		for k := 2; k < 64; k++ {
			if k%3 == 0 {
				lines = append(lines, op(api.Nop, 0, 0, 0))
			} else {
				lines = append(lines, hidden(op(api.Nop, 0, 0, 0)))
			}
		}
		c := coded(t, lines...)
		run(t, c, 1)
		if to%3 == 0 {
			run(t, c, 1)
		} else {
			breaks(t, "no start", c, check.OutOfMap)
		}
	}
	i := image(20, li(1, w(api.Nop, 0, 0, 0)), two(api.Jmp, 0, 2049))
	i.Starts = []int{0, 1, 2}
	c := made(t, i)
	run(t, c, 3)
	if got := c.Machine().CPU().PC; got != 2050 {
		t.Errorf("it is at %d, want 2050", got)
	}
}

// P15.1 OutOfMap: the kernel's last start, at the end of all code that there may be.
func TestP15_1LastStart(t *testing.T) {
	i := image(0, two(api.Jmp, 0, 4095))
	i.Code = append(i.Code, make([]uint32, 2045)...)
	i.Code = append(i.Code, w(api.Nop, 0, 0, 0))
	i.Starts = []int{0, 2047}
	c := made(t, i)
	run(t, c, 2)
	breaks(t, "behind all code", c, check.OutOfMap)
}

// P15.1 NoCall: a call of the monitor, whatever it asks for.
func TestP15_1NoCall(t *testing.T) {
	for _, n := range []uint32{0, 1, 5, 1 << 31, 1<<31 + w(api.Out, 1, 0, 0), most} {
		c := coded(t, two(api.Hc, 0, n), op(api.Nop, 0, 0, 0))
		breaks(t, "hc", c, check.NoCall)
		c = coded(t, op(api.Nop, 0, 0, 0), placed(two(api.Hc, 0, n)))
		run(t, c, 1)
		breaks(t, "hc", c, check.NoCall)
	}
}

// P15.1 NoCall: a word that is no instruction, where one is said to begin.
func TestP15_1NoInstruction(t *testing.T) {
	for _, x := range []uint32{
		0, 1, 5, w(25, 0, 0, 0), w(31, 0, 0, 0), w(45, 0, 0, 0), w(63, 0, 0, 0), w(68, 0, 0, 0), w(95, 0, 0, 0), w(97, 0, 0, 0), w(255, 0, 0, 0), most, 1 << 31,
		w(api.Nop, 1, 0, 0), w(api.Nop, 0, 1, 0), w(api.Nop, 0, 0, 1), w(api.Add, 16, 0, 0), w(api.Add, 1, 16, 0), w(api.Add, 1, 2, 16), w(api.Ld, 255, 0, 0), w(api.Li, 16, 0, 0), w(api.Li, 1, 1, 0),
		w(api.Hc, 1, 0, 0), w(api.Hc, 0, 1, 0), w(api.Hc, 0, 0, 1), w(api.Out, 16, 0, 0), w(api.Out, 1, 1, 0), w(api.Rti, 0, 0, 1), w(api.Jr, 1, 0, 4), w(api.Br, 1, 0, 0), w(api.Brz, 1, 1, 0),
	} {
		c := coded(t, word(x), op(api.Nop, 0, 0, 0))
		breaks(t, "no instruction", c, check.NoCall)
		c = coded(t, la(1, 2052), op(api.Stv, 1, 0, 0), word(x), op(api.Nop, 0, 0, 0))
		run(t, c, 2)
		breaks(t, "no instruction, and a place for traps", c, check.NoCall)
	}
}

// loads are a load, and a store, of the word at an address.
func loads(addr uint32) [][]line {
	var l [][]line
	for _, o := range []int{api.Ld, api.St} {
		for _, c := range []uint32{0, 1, 255} {
			l = append(l, []line{li(3, addr-c), op(o, 4, 3, int(c)), op(api.Nop, 0, 0, 0)})
		}
	}
	return l
}

// P15.1 CodeRead: addresses from 2048 to below 4096, be there a page or not.
func TestP15_1CodeRead(t *testing.T) {
	for _, addr := range []uint32{2048, 2049, 2050, 2051, 2052, 2063, 2064, 2303, 3000, 4080, 4094, 4095} {
		for _, l := range loads(addr) {
			c := coded(t, l...)
			run(t, c, 1)
			breaks(t, "in code", c, check.CodeRead)
			c = coded(t, join([]line{la(5, 2055), op(api.Stv, 5, 0, 0)}, l)...)
			run(t, c, 3)
			breaks(t, "in code, and a place for traps", c, check.CodeRead)
		}
	}
}

// P15.1 CodeRead: not the words around them, nor those that are there by going round.
func TestP15_1NotCodeRead(t *testing.T) {
	for _, addr := range []uint32{0, 1, 254, 255, 256, 2046, 2047} {
		for _, l := range loads(addr) {
			c := madeOf(t, image(2048, l...), 256)
			run(t, c, 3)
		}
	}
	for _, addr := range []uint32{32, 255, 256, 2046, 2047, 4096, 4097, 4351, 1<<16 + base, 1 << 31, 1<<31 + base, most - 2047, most - 1, most} {
		for _, l := range loads(addr) {
			c := coded(t, l...)
			run(t, c, 1)
			over(t, "a fault", c, api.Seen{Kind: api.SeenFault, A: api.CausePage})
		}
	}
}

// P15.1: a fault of memory, where a trap goes to a place of code, and where TV is 0, as a number or as a place.
func TestP15_1Fault(t *testing.T) {
	for _, o := range []line{op(api.Ld, 4, 3, 32), op(api.St, 4, 3, 32), op(api.Ld, 4, 3, 255), op(api.St, 4, 3, 255)} {
		c := coded(t, la(5, 2054), op(api.Stv, 5, 0, 0), o, hidden(op(api.Nop, 0, 0, 0)), hidden(op(api.Nop, 0, 0, 0)), op(api.Gcs, 6, 0, 0))
		run(t, c, 2)
		goes(t, "a trap", c, tags(5))
		goes(t, "where it is taken", c, tags(5))
		if cpu := c.Machine().CPU(); cpu.PC != 2055 || cpu.R[6] != api.CausePage || cpu.EPC != 2051 {
			t.Errorf("it stands at %d, the cause is %d, the way back %d", cpu.PC, cpu.R[6], cpu.EPC)
		}
		c = coded(t, o, op(api.Nop, 0, 0, 0))
		over(t, "no place for it", c, api.Seen{Kind: api.SeenFault, A: api.CausePage})
		for _, l := range [][]line{{li(5, 0), op(api.Stv, 5, 0, 0)}, {la(5, 0), op(api.Stv, 5, 0, 0)}, {la(5, 2050), op(api.Stv, 5, 0, 0), li(5, 0), op(api.Stv, 5, 0, 0)}} {
			c = coded(t, append(l, o)...)
			run(t, c, len(l))
			over(t, "TV is 0", c, api.Seen{Kind: api.SeenFault, A: api.CausePage})
		}
	}
}

// P15.1: a second word that has no place is a fault of memory, of an instruction that begins in the last word of a page.
func TestP15_1NoSecondWord(t *testing.T) {
	for _, o := range []int{api.Li, api.La, api.Jmp, api.Jz, api.Jn, api.Call, api.Hc} {
		last := line{words: []uint32{w(o, 0, 0, 0)}}
		c := coded(t, append(at(t, base+15, two(api.Jmp, 0, base+15)), last)...)
		run(t, c, 1)
		over(t, "no second word", c, api.Seen{Kind: api.SeenFault, A: api.CausePage})
		c = coded(t, append(at(t, base+15, la(0, 2052), op(api.Stv, 0, 0, 0), op(api.Br, 0, 0, 12), op(api.Gfa, 1, 0, 0)), last)...)
		run(t, c, 3)
		goes(t, "no second word, and a place for traps", c, tags(0))
		run(t, c, 1)
		if got := c.Machine().CPU().R[1]; got != base+16 {
			t.Errorf("the fault was at %d, want %d", got, base+16)
		}
	}
}

// P15.1: of what would be broken what comes first: a start, an instruction, registers, addresses, traps.
func TestP15_1Order(t *testing.T) {
	jump := two(api.Jmp, 0, 2052)
	for _, x := range []struct {
		what  string
		lines []line
		want  int
	}{
		{"no start, and a call", []line{la(3, 2050), jump, hidden(two(api.Hc, 0, 5))}, check.OutOfMap},
		{"no start, and no instruction", []line{la(3, 2050), jump, hidden(word(0))}, check.OutOfMap},
		{"no start, and no page", []line{la(3, 2050), two(api.Jmp, 0, 4000)}, check.OutOfMap},
		{"no start, and a place that is told", []line{la(3, 2050), two(api.Jmp, 0, 2052), hidden(op(api.Out, 3, 0, 0))}, check.OutOfMap},
		{"no start, and a place as a number", []line{la(3, 2050), two(api.Jmp, 0, 2052), hidden(op(api.Add, 3, 3, 3))}, check.OutOfMap},
		{"no start, and a number as a place", []line{la(3, 2050), two(api.Jmp, 0, 2052), hidden(op(api.Jr, 4, 0, 0))}, check.OutOfMap},
		{"no start, and code that is read", []line{li(3, 2048), two(api.Jmp, 0, 2052), hidden(op(api.Ld, 4, 3, 0))}, check.OutOfMap},
		{"a place as an address of code", []line{la(3, 2048), op(api.Br, 0, 0, 1), op(api.Ld, 4, 3, 0)}, check.Mixed},
		{"a place as an address of code, to be written", []line{la(3, 2048), op(api.Br, 0, 0, 1), op(api.St, 4, 3, 0)}, check.Mixed},
		{"a place as an address of nothing", []line{la(3, 5000), op(api.Br, 0, 0, 1), op(api.St, 4, 3, 0)}, check.Mixed},
		{"code without a page", []line{li(3, 4000), op(api.Br, 0, 0, 1), op(api.Ld, 4, 3, 0)}, check.CodeRead},
		{"a jump to a number that is no start", []line{li(3, 4000), op(api.Br, 0, 0, 1), op(api.Jr, 3, 0, 0)}, check.NotCode},
	} {
		c := coded(t, x.lines...)
		run(t, c, 2)
		breaks(t, x.what, c, x.want)
	}
}
