package bare_test

import (
	"testing"

	"facade/api"
	"facade/bare"
)

// checkNext holds Next against the instruction that has to be there, or none; it moves nothing.
func checkNext(t *testing.T, what string, b *bare.Machine, want api.Instr, is bool) {
	t.Helper()
	was := of(b)
	if in, got := b.Next(); in != want || got != is {
		t.Errorf("%s: Next is %v, %v, want %v, %v", what, in, got, want, is)
	}
	was.check(t, what+", asked for what is next", b)
}

// P8.3 Waiting: behind each Spte, behind Sync.
func TestP8_3Waiting(t *testing.T) {
	b := machine(t, kernel(t, w(api.Spte, 1, 2, 0), w(api.Spte, 1, 2, 0), w(api.Nop, 0, 0, 0), w(api.Sync, 0, 0, 0), w(api.Spte, 1, 2, 0)), api.CPU{PC: start})
	for k, want := range []int{0, 1, 2, 2, 0, 1} {
		if got := b.Waiting(); got != want {
			t.Errorf("behind %d steps %d wait, want %d", k, got, want)
		}
		run(t, b, 1)
	}
}

// P8.3 Next: the instruction at PC, of one word and of two, of each class.
func TestP8_3Next(t *testing.T) {
	for _, x := range []struct {
		words []uint32
		want  api.Instr
	}{
		{[]uint32{w(api.Nop, 0, 0, 0)}, api.Instr{Op: api.Nop}},
		{[]uint32{w(api.Add, 1, 2, 3)}, api.Instr{Op: api.Add, A: 1, B: 2, C: 3}},
		{[]uint32{w(api.Li, 4, 0, 0), most}, api.Instr{Op: api.Li, A: 4, Imm: most}},
		{[]uint32{w(api.Ld, 1, 2, 255)}, api.Instr{Op: api.Ld, A: 1, B: 2, C: 255}},
		{[]uint32{w(api.Halt, 15, 0, 0)}, api.Instr{Op: api.Halt, A: 15}},
		{[]uint32{w(api.Spte, 1, 2, 0)}, api.Instr{Op: api.Spte, A: 1, B: 2}},
		{[]uint32{w(api.Gst, 5, 0, 0)}, api.Instr{Op: api.Gst, A: 5}},
		{[]uint32{w(api.Hc, 0, 0, 0), 5}, api.Instr{Op: api.Hc, Imm: 5}},
	} {
		for _, pc := range []int{start, 2063, 2302} {
			m := code(t, kernel(t), pc, x.words...)
			for _, c := range standing(uint32(pc)) {
				checkNext(t, "next", machine(t, m, c), x.want, true)
			}
		}
	}
}

// P8.3 Next: false, and no instruction: where there is no page, no word, no second word.
func TestP8_3NextNone(t *testing.T) {
	for _, x := range faults() {
		if x.cause == api.CausePage && x.pc == start || x.what == "a call of the monitor" || x.what == "a call of the monitor at the end" {
			continue // there is an instruction
		}
		m := code(t, kernel(t), max(int(x.pc%4096), start), x.words...)
		for _, c := range standing(x.pc) {
			checkNext(t, x.what, machine(t, m, c), api.Instr{}, false)
		}
	}
}

// P8.3 Next: it goes with PC, whatever waits, and whether it is over or not.
func TestP8_3NextGoesOn(t *testing.T) {
	m := code(t, kernel(t, w(api.Li, 1, 0, 0), 9, w(api.Mov, 2, 1, 0)), taker, w(api.Gcs, 3, 0, 0), w(api.Halt, 3, 0, 0), w(api.Nop, 0, 0, 0))
	b := machine(t, m, api.CPU{PC: start, IE: true, TV: taker})
	checkNext(t, "at first", b, api.Instr{Op: api.Li, A: 1, Imm: 9}, true)
	run(t, b, 1)
	checkNext(t, "behind two words", b, api.Instr{Op: api.Mov, A: 2, B: 1}, true)
	press(t, b, 71)
	checkNext(t, "a key waits", b, api.Instr{Op: api.Mov, A: 2, B: 1}, true)
	run(t, b, 1)
	checkNext(t, "interrupted", b, api.Instr{Op: api.Halt, A: 3}, true)
	run(t, b, 1)
	checkNext(t, "it is over", b, api.Instr{Op: api.Halt, A: 3}, true)
}

// P8.3 Next: as the supervisor has it: code that no user may use.
func TestP8_3NextOfSupervisor(t *testing.T) {
	m := kernel(t, w(api.Nop, 0, 0, 0))
	word(t, m, 16+128, entry(24, 0))
	b := machine(t, m, api.CPU{PC: start})
	checkNext(t, "no user's", b, api.Instr{Op: api.Nop}, true)
	goes(t, "no user's", b)
}

// P8.3 Mem: a copy: writing to it changes nothing in the machine, nor does a step change it.
func TestP8_3Mem(t *testing.T) {
	b := machine(t, kernel(t, w(api.St, 1, 0, 3), w(api.St, 1, 0, 4)), api.CPU{PC: start, R: api.Regs16{1: 99}})
	was := of(b)
	first, second := b.Mem(), b.Mem()
	for f := range first.Frames() {
		first.Fill(f, most, most)
	}
	was.check(t, "a copy was written", b)
	if x, _ := second.Read(0); x != entry(1, write|use) {
		t.Errorf("another copy was written: %d", x)
	}
	run(t, b, 1)
	if x, _ := second.Read(17*16 + 3); x != 0 {
		t.Errorf("a step wrote a copy: %d", x)
	}
	if x, _ := b.Mem().Read(17*16 + 3); x != 99 {
		t.Errorf("a later copy has %d, want 99", x)
	}
}

// P8.3 Press: MaxKeys find room, another one does not, and changes nothing; taken, there is room again.
func TestP8_3Press(t *testing.T) {
	b := machine(t, kernel(t, w(api.In, 1, 0, 0), w(api.Br, 0, 0, 0xff)), api.CPU{PC: start})
	was := of(b)
	for k := range uint32(api.MaxKeys) {
		press(t, b, 100+k)
	}
	for range 3 {
		if b.Press(999) {
			t.Error("Press is true, though MaxKeys wait")
		}
	}
	was.check(t, "pressed", b)
	step(t, "in", b, func(s *state) { s.c.R[1] = 100; s.c.PC++ })
	press(t, b, 500)
	if b.Press(999) {
		t.Error("Press is true, though MaxKeys wait again")
	}
	goes := func(s *state) { s.c.PC-- }
	for k := range uint32(api.MaxKeys - 1) {
		step(t, "br", b, goes)
		step(t, "in", b, func(s *state) { s.c.R[1] = 101 + k; s.c.PC++ })
	}
	for _, key := range []uint32{500, 0} {
		step(t, "br", b, goes)
		step(t, "in", b, func(s *state) { s.c.R[1] = key; s.c.PC++ })
	}
}

// P8.3 Seen: each list is new memory, spare room too.
func TestP8_3SeenCopied(t *testing.T) {
	b := machine(t, kernel(t, w(api.Out, 1, 0, 0), w(api.Out, 2, 0, 0), w(api.Out, 3, 0, 0), w(api.Out, 4, 0, 0)), unlike(start, false, false))
	run(t, b, 3)
	was := of(b)
	l, other := b.Seen(), b.Seen()
	for k := range l {
		l[k] = api.Seen{Kind: 9, A: 9, N: 9}
	}
	_ = append(l, api.Seen{Kind: 9}, api.Seen{Kind: 9})
	was.check(t, "a list was written", b)
	if other[0].Kind != api.SeenOut {
		t.Errorf("another list was written: %v", other)
	}
	step(t, "out", b, func(s *state) { s.show(api.SeenOut, 0, s.c.R[4]); s.c.PC++ })
	if len(other) != 3 {
		t.Errorf("a step wrote a list: %v", other)
	}
}
