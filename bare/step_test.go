package bare_test

import (
	"testing"

	"facade/api"
	"facade/core"
)

// P8.2: each instruction that may stand anywhere, as core.Once has it of the supervisor.
func TestP8_2Innocuous(t *testing.T) {
	for _, words := range [][]uint32{
		{w(api.Nop, 0, 0, 0)}, {w(api.Mov, 1, 2, 0)}, {w(api.Add, 1, 2, 3)}, {w(api.Sub, 1, 2, 3)}, {w(api.And, 1, 2, 3)},
		{w(api.Or, 1, 2, 3)}, {w(api.Xor, 1, 2, 3)}, {w(api.Shl, 1, 2, 3)}, {w(api.Shr, 1, 2, 3)}, {w(api.Lt, 1, 2, 3)},
		{w(api.Eq, 1, 2, 3)}, {w(api.Mul, 1, 2, 3)}, {w(api.Li, 1, 0, 0), 77}, {w(api.La, 1, 0, 0), 2100}, {w(api.Br, 0, 0, 0xf0)},
		{w(api.Brz, 1, 0, 4)}, {w(api.Brn, 1, 0, 4)}, {w(api.Brz, 6, 0, 4)}, {w(api.Brn, 6, 0, 4)}, {w(api.Jmp, 0, 0, 0), 2100},
		{w(api.Jz, 1, 0, 0), 2100}, {w(api.Jn, 1, 0, 0), 2100}, {w(api.Call, 0, 0, 0), 2100}, {w(api.Jr, 1, 0, 0)},
		{w(api.Ld, 1, 6, 31)}, {w(api.St, 1, 6, 15)}, {w(api.Ld, 1, 7, 0)},
	} {
		m := kernel(t, words...)
		word(t, m, 18*16+15, 1234)
		for _, c := range standing(start) {
			c.R[6], c.R[7] = 0, start
			step(t, "innocuous", machine(t, m, c), func(s *state) {
				var stop core.Stop
				if s.c, stop = core.Once(s.m, 0, c, false); stop.Cause != 0 {
					t.Fatalf("%v: cause %d", words, stop.Cause)
				}
			})
		}
	}
}

// P8.2: an instruction written out, and its time: PC behind one word and behind two, a jump, a load and a store.
func TestP8_2WrittenOut(t *testing.T) {
	m := kernel(t, w(api.Li, 1, 0, 0), 40, w(api.Add, 2, 1, 1), w(api.St, 2, 0, 7), w(api.Ld, 3, 0, 7), w(api.Call, 0, 0, 0), 2060)
	b := machine(t, code(t, m, 2060, w(api.Jr, 15, 0, 0)), api.CPU{PC: start})
	step(t, "li", b, func(s *state) { s.c.R[1] = 40; s.c.PC = 2050 })
	step(t, "add", b, func(s *state) { s.c.R[2] = 80; s.c.PC = 2051 })
	step(t, "st", b, func(s *state) { s.fill(t, 17*16+7, 80); s.c.PC = 2052 })
	step(t, "ld", b, func(s *state) { s.c.R[3] = 80; s.c.PC = 2053 })
	step(t, "call", b, func(s *state) { s.c.R[15] = 2055; s.c.PC = 2060 })
	step(t, "jr", b, func(s *state) { s.c.PC = 2055 })
	if b.Now() != 6 {
		t.Errorf("time %d, want 6", b.Now())
	}
}

// fault is a trap that an instruction leads to: at pc, by words there.
type fault struct {
	what  string
	pc    uint32
	words []uint32
	cause int
	addr  uint32
}

func faults() []fault {
	return []fault{
		{"no page", 32, nil, api.CausePage, 32},
		{"no address", 4096, nil, api.CausePage, 4096},
		{"the last address", most, nil, api.CausePage, most},
		{"no page for the second word", 2303, []uint32{w(api.Li, 1, 0, 0)}, api.CausePage, 2304},
		{"a load where no page is", start, []uint32{w(api.Ld, 1, 6, 32)}, api.CausePage, 32},
		{"a load of no address", start, []uint32{w(api.Ld, 1, 7, 3)}, api.CausePage, 4099},
		{"a store where it may not write", start, []uint32{w(api.St, 1, 6, 18)}, api.CausePage, 18},
		{"a store into code", start, []uint32{w(api.St, 1, 8, 2)}, api.CausePage, start + 2},
		{"a store where no page is", start, []uint32{w(api.St, 1, 6, 32)}, api.CausePage, 32},
		{"0", start, []uint32{0}, api.CauseBad, 0},
		{"all bits", start, []uint32{most}, api.CauseBad, 0},
		{"an operand too many", start, []uint32{w(api.Nop, 0, 0, 1)}, api.CauseBad, 0},
		{"a privileged one with an operand too many", start, []uint32{w(api.Cli, 1, 0, 0)}, api.CauseBad, 0},
		{"no register", start, []uint32{w(api.Out, 16, 0, 0)}, api.CauseBad, 0},
		{"no instruction", start, []uint32{w(45, 0, 0, 0)}, api.CauseBad, 0},
		{"a call of the monitor", start, []uint32{w(api.Hc, 0, 0, 0), 5}, api.CauseBad, 0},
		{"a call of the monitor at the end", 2302, []uint32{w(api.Hc, 0, 0, 0), most}, api.CauseBad, 0},
		{"no page for a call's second word", 2303, []uint32{w(api.Hc, 0, 0, 0)}, api.CausePage, 2304},
	}
}

// P8.2: each fault is taken, with its address, or is the end.
func TestP8_2Faults(t *testing.T) {
	for _, x := range faults() {
		m := code(t, kernel(t), max(int(x.pc%4096), start), x.words...)
		for _, c := range standing(x.pc) {
			c.R[6], c.R[7], c.R[8] = 0, 4096, start
			b := machine(t, m, c)
			step(t, x.what, b, func(s *state) { s.trap(x.cause, x.addr) })
			if c.TV == 0 {
				ended(t, x.what, b)
			}
		}
	}
}

// P8.2: a fault written out: what is kept of where it was, and what is seen of one that nobody takes.
func TestP8_2FaultWrittenOut(t *testing.T) {
	m := kernel(t, w(api.Nop, 0, 0, 0), 0)
	b := machine(t, m, api.CPU{PC: start, TV: taker, IE: true})
	run(t, b, 2)
	state{c: api.CPU{PC: taker, TV: taker, EPC: start + 1, EIE: true, Cause: api.CauseBad}, now: 2, m: m}.check(t, "taken", b)
	b = machine(t, m, api.CPU{PC: start, IE: true})
	run(t, b, 2)
	state{c: api.CPU{PC: start + 1, IE: true}, now: 2, over: true, m: m, seen: []api.Seen{{Kind: api.SeenFault, A: api.CauseBad}}}.check(t, "the end", b)
	ended(t, "the end", b)
}

// P8.2: a fault of the one who takes faults is taken, too, at the same place, and the first way back is gone.
func TestP8_2FaultAgain(t *testing.T) {
	b := machine(t, kernel(t, 0), unlike(start, true, false))
	step(t, "first", b, func(s *state) { s.enter(api.CauseBad, 0) })
	for range 3 {
		step(t, "again", b, func(s *state) { s.c.EPC, s.c.EIE = taker, false })
	}
	c := unlike(start, true, true)
	c.TV = 500
	b = machine(t, kernel(t, 0), c)
	step(t, "first", b, func(s *state) { s.enter(api.CauseBad, 0) })
	step(t, "no page for the taker", b, func(s *state) { s.enter(api.CausePage, 500) })
}

// P8.2: an interrupt is entered ahead of the instruction, and the one at TV is done in that step.
func TestP8_2Key(t *testing.T) {
	for _, eie := range []bool{false, true} {
		m := code(t, kernel(t, w(api.Out, 1, 0, 0)), taker, w(api.Gcs, 7, 0, 0), w(api.Gfa, 8, 0, 0), w(api.In, 9, 0, 0), w(api.Rti, 0, 0, 0))
		c := unlike(start, true, eie)
		b := machine(t, m, c)
		press(t, b, 71)
		step(t, "entered", b, func(s *state) { s.enter(api.CauseKey, 0); s.c.R[7] = api.CauseKey; s.c.PC++ })
		step(t, "gfa", b, func(s *state) { s.c.R[8] = 0; s.c.PC++ })
		step(t, "in", b, func(s *state) { s.c.R[9] = 71; s.c.PC++ })
		step(t, "back", b, func(s *state) { s.c.PC, s.c.IE, s.c.EPC, s.c.EIE = start, true, 0, false })
		step(t, "what was interrupted", b, func(s *state) { s.show(api.SeenOut, 0, c.R[1]); s.c.PC++ })
	}
}

// P8.2: while interrupts are off, nothing is entered, and keys wait on.
func TestP8_2KeyWaits(t *testing.T) {
	m := code(t, kernel(t, w(api.Nop, 0, 0, 0), w(api.Nop, 0, 0, 0), w(api.Sti, 0, 0, 0), w(api.Out, 1, 0, 0)), taker, w(api.In, 9, 0, 0))
	b := machine(t, m, unlike(start, false, true))
	press(t, b, 71, 72)
	goes(t, "it is off", b)
	goes(t, "it is off", b)
	step(t, "it is set on by this step, behind the question", b, func(s *state) { s.c.IE = true; s.c.PC++ })
	step(t, "entered", b, func(s *state) { s.enter(api.CauseKey, 0); s.c.R[9] = 71; s.c.PC++ })
	if n := room(b); n != api.MaxKeys-1 {
		t.Errorf("room for %d keys, want %d", n, api.MaxKeys-1)
	}
}

// P8.2: entered, the key still waits: as long as nobody takes it, it interrupts again.
func TestP8_2KeyStays(t *testing.T) {
	b := machine(t, code(t, kernel(t, w(api.Nop, 0, 0, 0)), taker, w(api.Rti, 0, 0, 0)), unlike(start, true, false))
	press(t, b, 71)
	for range 5 {
		step(t, "there and back in one step", b, func(s *state) { s.c.EPC, s.c.EIE, s.c.Cause, s.c.Addr = 0, false, api.CauseKey, 0 })
	}
	if n := room(b); n != api.MaxKeys-1 {
		t.Errorf("room for %d keys, want %d", n, api.MaxKeys-1)
	}
}

// P8.2: what stands at TV may be anything: the step that enters does that.
func TestP8_2EnteredOnto(t *testing.T) {
	for _, x := range []struct {
		what  string
		words []uint32
		do    func(s *state)
	}{
		{"two words", []uint32{w(api.Li, 1, 0, 0), 9}, func(s *state) { s.c.R[1] = 9; s.c.PC += 2 }},
		{"out", []uint32{w(api.Out, 1, 0, 0)}, func(s *state) { s.show(api.SeenOut, 0, s.c.R[1]); s.c.PC++ }},
		{"halt", []uint32{w(api.Halt, 1, 0, 0)}, func(s *state) { s.over = true; s.show(api.SeenHalt, 0, s.c.R[1]) }},
		{"sti", []uint32{w(api.Sti, 0, 0, 0)}, func(s *state) { s.c.IE = true; s.c.PC++ }},
		{"gst", []uint32{w(api.Gst, 1, 0, 0)}, func(s *state) { s.c.R[1] = 2; s.c.PC++ }},
		{"none", []uint32{0}, func(s *state) { s.enter(api.CauseBad, 0) }},
		{"a call", []uint32{w(api.Hc, 0, 0, 0), 1}, func(s *state) { s.enter(api.CauseBad, 0) }},
		{"a fault", []uint32{w(api.Ld, 1, 6, 64)}, func(s *state) { s.enter(api.CausePage, 64) }},
	} {
		c := unlike(start, true, true)
		c.R[6] = 0
		b := machine(t, code(t, kernel(t, w(api.Nop, 0, 0, 0)), taker, x.words...), c)
		press(t, b, 71)
		step(t, x.what, b, func(s *state) { s.enter(api.CauseKey, 0); x.do(s) })
	}
	c := unlike(start, true, true)
	c.TV = most
	b := machine(t, kernel(t, w(api.Nop, 0, 0, 0)), c)
	press(t, b, 71)
	step(t, "no page at TV", b, func(s *state) { s.enter(api.CauseKey, 0); s.enter(api.CausePage, most) })
}

// P8.2: an interrupt that nobody takes is the end: what is seen is its cause, time is one more, the instruction is not
// done, the processor is as it was.
func TestP8_2NobodyTakesKey(t *testing.T) {
	for _, pc := range []uint32{start, 0, 4096} {
		c := unlike(pc, true, true)
		c.TV = 0
		b := machine(t, kernel(t, w(api.Out, 1, 0, 0)), c)
		press(t, b, 71)
		step(t, "a key", b, func(s *state) { s.over = true; s.show(api.SeenFault, api.CauseKey, 0) })
		ended(t, "a key", b)
		if n := room(b); n != api.MaxKeys-1 {
			t.Errorf("room for %d keys, want %d", n, api.MaxKeys-1)
		}
	}
}

// P8.2: likewise of the timer; it is ahead of a key.
func TestP8_2NobodyTakesTimer(t *testing.T) {
	c := unlike(start, false, true)
	c.TV, c.R[1] = 0, 2
	b := machine(t, kernel(t, w(api.Tmr, 1, 0, 0), w(api.Sti, 0, 0, 0), w(api.Out, 1, 0, 0)), c)
	goes(t, "tmr", b)
	step(t, "sti", b, func(s *state) { s.c.IE = true; s.c.PC++ })
	press(t, b, 71)
	step(t, "the timer", b, func(s *state) { s.over = true; s.show(api.SeenFault, api.CauseTimer, 0) })
	ended(t, "the timer", b)
}

// P8.2: where it is over, a step is false and does nothing, whatever waits.
func TestP8_2Over(t *testing.T) {
	m := kernel(t, w(api.Halt, 1, 0, 0), w(api.Nop, 0, 0, 0))
	b := machine(t, m, unlike(start, true, true))
	run(t, b, 1)
	press(t, b, 71)
	ended(t, "a key waits", b)
	if n := room(b); n != api.MaxKeys-1 {
		t.Errorf("room for %d keys, want %d", n, api.MaxKeys-1)
	}
	if b.Now() != 1 {
		t.Errorf("time %d, want 1", b.Now())
	}
}

// P8.2: a machine that is not over goes on, and time is how many steps were done.
func TestP8_2Time(t *testing.T) {
	b := machine(t, kernel(t, w(api.Br, 0, 0, 0)), unlike(start, true, true))
	for k := range 2000 {
		if b.Now() != int64(k) || !b.Step() {
			t.Fatalf("time %d behind %d steps", b.Now(), k)
		}
	}
}
