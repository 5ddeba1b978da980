package bare_test

import (
	"testing"

	"facade/api"
	"facade/bare"
)

// operation is a privileged operation: which registers it has, and what it changes, where no key waits, all sectors are
// 0, and no update waits. Time is changed by step.
type operation struct {
	op      int
	a, b    bool
	changes func(s *state, a, b int)
}

// goesOn is what an operation changes, and PC behind it.
func goesOn(changes func(s *state, a, b int)) func(s *state, a, b int) {
	return func(s *state, a, b int) {
		changes(s, a, b)
		s.c.PC++
	}
}

func operations() []operation {
	return []operation{
		{api.Halt, true, false, func(s *state, a, b int) { s.over = true; s.show(api.SeenHalt, 0, s.c.R[a]) }},
		{api.Rti, false, false, func(s *state, a, b int) { s.c.PC, s.c.IE, s.c.EPC, s.c.EIE = s.c.EPC, s.c.EIE, 0, false }},
		{api.Stv, true, false, goesOn(func(s *state, a, b int) { s.c.TV = s.c.R[a] })},
		{api.Out, true, false, goesOn(func(s *state, a, b int) { s.show(api.SeenOut, 0, s.c.R[a]) })},
		{api.In, true, false, goesOn(func(s *state, a, b int) { s.c.R[a] = 0 })},
		{api.Bwr, true, true, goesOn(func(s *state, a, b int) { s.show(api.SeenWrite, s.c.R[a]%16, s.c.R[b]) })},
		{api.Brd, true, true, goesOn(func(s *state, a, b int) { s.c.R[a] = 0 })},
		{api.Tmr, true, false, goesOn(func(s *state, a, b int) {})},
		{api.Gtm, true, false, goesOn(func(s *state, a, b int) { s.c.R[a] = 0 })},
		{api.Gcs, true, false, goesOn(func(s *state, a, b int) { s.c.R[a] = s.c.Cause })},
		{api.Gfa, true, false, goesOn(func(s *state, a, b int) { s.c.R[a] = s.c.Addr })},
		{api.Cli, false, false, goesOn(func(s *state, a, b int) { s.c.IE = false })},
		{api.Sti, false, false, goesOn(func(s *state, a, b int) { s.c.IE = true })},
		{api.Gst, true, false, goesOn(func(s *state, a, b int) { s.c.R[a] = stands(s.c.IE) })},
		{api.Sst, true, false, goesOn(func(s *state, a, b int) { s.c.IE = s.c.R[a]&1 == 1 })},
		{api.Spte, true, true, goesOn(func(s *state, a, b int) {
			if s.c.R[a] < 128 && waits(s.c.R[b]) {
				s.waiting++
			}
		})},
		{api.Sync, false, false, goesOn(func(s *state, a, b int) {})},
	}
}

// stands is what Gst tells.
func stands(ie bool) uint32 {
	if ie {
		return 3
	}
	return 2
}

// waits tells whether an entry's word may wait, by the quota of machine.
func waits(x uint32) bool {
	f := x >> 8
	return x == 0 || x&0xff&^(plain|write|use) == 0 && x&plain != 0 && f >= 17 && f < quota
}

// word is the operation's word, with registers a and b where it has them.
func (o operation) word(a, b int) uint32 {
	if !o.a {
		a = 0
	}
	if !o.b {
		b = 0
	}
	return w(o.op, a, b, 0)
}

// P8.2: each privileged operation by itself, with each register, and edges of words in them: what it changes, and that
// it leaves all else.
func TestP8_2Privileged(t *testing.T) {
	for _, o := range operations() {
		for a := range 16 {
			for _, b := range []int{0, a, (a + 1) % 16, 15} {
				m := kernel(t, o.word(a, b))
				for _, c := range standing(start) {
					step(t, "as it stands", machine(t, m, c), func(s *state) { o.changes(s, a, b) })
				}
			}
		}
		m := kernel(t, o.word(7, 2))
		for _, x := range edgeWords() {
			for _, y := range edgeWords() {
				c := unlike(start, x%2 == 0, y%2 == 0)
				c.R[7], c.R[2], c.EPC, c.Cause, c.Addr = x, y, y, x, y
				step(t, "an edge", machine(t, m, c), func(s *state) { o.changes(s, 7, 2) })
			}
		}
	}
}

// P8.2: each stands where an instruction may: at the first address of code, and at the last, with PC behind it.
func TestP8_2PrivilegedAnywhere(t *testing.T) {
	for _, o := range operations() {
		for _, pc := range []int{start, 2063, 2064, 2303} {
			m := code(t, kernel(t), pc, o.word(7, 2))
			for _, c := range standing(uint32(pc)) {
				step(t, "anywhere", machine(t, m, c), func(s *state) { o.changes(s, 7, 2) })
			}
		}
	}
}

// P8.2: none of them touches devices that are not its own: keys, a sector and a timer are as they were behind it.
func TestP8_2PrivilegedLeaves(t *testing.T) {
	for _, o := range operations() {
		switch o.op {
		case api.Halt, api.In, api.Tmr, api.Bwr: // nothing comes behind it, or they are its own
			continue
		case api.Sti: // the keys would interrupt what asks for them
			continue
		}
		m := kernel(t, w(api.Bwr, 1, 2, 0), w(api.Tmr, 3, 0, 0), o.word(4, 5),
			w(api.In, 6, 0, 0), w(api.In, 7, 0, 0), w(api.In, 8, 0, 0), w(api.Brd, 9, 1, 0), w(api.Sti, 0, 0, 0), w(api.Br, 0, 0, 0))
		c := api.CPU{PC: start, EPC: start + 3, TV: taker, R: api.Regs16{1: 3, 2: 99, 3: 20, 4: taker, 5: 3}}
		b := machine(t, code(t, m, taker, w(api.Nop, 0, 0, 0)), c)
		press(t, b, 71, 72)
		run(t, b, 3)
		checkDevices(t, b)
	}
}

// checkDevices holds the devices against what TestP8_2PrivilegedLeaves did with them, by its code.
func checkDevices(t *testing.T, b *bare.Machine) {
	t.Helper()
	for k, x := range []uint32{71, 72, 0, 99} {
		step(t, "a key, or the sector", b, func(s *state) { s.c.R[6+k] = x; s.c.PC++ })
	}
	step(t, "sti", b, func(s *state) { s.c.IE = true; s.c.PC++ })
	for b.Now() < 21 {
		step(t, "the timer waits", b, func(s *state) {})
	}
	step(t, "the timer rings", b, func(s *state) { s.enter(api.CauseTimer, 0); s.c.PC++ })
}

// P8.2 Halt: it is over, in a true step, at its own address.
func TestP8_2Halt(t *testing.T) {
	for _, x := range edgeWords() {
		for _, c := range standing(start) {
			c.R[3] = x
			b := machine(t, kernel(t, w(api.Halt, 3, 0, 0), w(api.Out, 3, 0, 0)), c)
			step(t, "halt", b, func(s *state) { s.over = true; s.show(api.SeenHalt, 0, x) })
			ended(t, "halt", b)
		}
	}
}

// P8.2 Stv: TV is the register's word, which is where the next trap goes; of 0 there is no place any more.
func TestP8_2Stv(t *testing.T) {
	b := machine(t, kernel(t, w(api.Stv, 3, 0, 0), 0), api.CPU{PC: start, R: api.Regs16{3: 2200}})
	step(t, "stv", b, func(s *state) { s.c.TV = 2200; s.c.PC++ })
	step(t, "a trap", b, func(s *state) { s.enter(api.CauseBad, 0) })
	b = machine(t, kernel(t, w(api.Stv, 3, 0, 0), 0), api.CPU{PC: start, TV: taker})
	step(t, "stv of 0", b, func(s *state) { s.c.TV = 0; s.c.PC++ })
	step(t, "a trap", b, func(s *state) { s.over = true; s.show(api.SeenFault, api.CauseBad, 0) })
}

// P8.2 Rti: back where the trap came from, PC not behind it; without a trap, at 0.
func TestP8_2Rti(t *testing.T) {
	m := code(t, kernel(t, 0), taker, w(api.Rti, 0, 0, 0))
	for _, ie := range []bool{false, true} {
		b := machine(t, m, unlike(start, ie, !ie))
		step(t, "a trap", b, func(s *state) { s.enter(api.CauseBad, 0) })
		step(t, "back", b, func(s *state) { s.c.PC, s.c.IE, s.c.EPC, s.c.EIE = start, ie, 0, false })
	}
	b := machine(t, code(t, m, start, w(api.Rti, 0, 0, 0)), api.CPU{PC: start, IE: true, TV: taker})
	step(t, "back from nowhere", b, func(s *state) { s.c.PC, s.c.IE = 0, false })
}

// P8.2 Out, Bwr: what is seen, in the order in which it was done, with halt and all.
func TestP8_2Seen(t *testing.T) {
	m := kernel(t, w(api.Out, 1, 0, 0), w(api.Bwr, 2, 1, 0), w(api.Out, 2, 0, 0), w(api.Out, 1, 0, 0), w(api.Bwr, 1, 2, 0), w(api.Halt, 2, 0, 0))
	b := machine(t, m, api.CPU{PC: start, R: api.Regs16{1: 5, 2: 33}})
	run(t, b, 6)
	state{
		c: api.CPU{PC: start + 5, R: api.Regs16{1: 5, 2: 33}}, now: 6, over: true, m: m,
		seen: []api.Seen{{Kind: 1, N: 5}, {Kind: 2, A: 1, N: 5}, {Kind: 1, N: 33}, {Kind: 1, N: 5}, {Kind: 2, A: 5, N: 33}, {Kind: 3, N: 33}},
	}.check(t, "seen", b)
}

// P8.2 In: keys come in the order in which they were pressed, each once; behind them 0.
func TestP8_2In(t *testing.T) {
	b := machine(t, kernel(t, w(api.In, 1, 0, 0), w(api.In, 1, 0, 0), w(api.In, 2, 0, 0), w(api.In, 1, 0, 0)), unlike(start, false, true))
	press(t, b, 71, most, 73)
	for k, x := range []struct {
		a   int
		key uint32
	}{{1, 71}, {1, most}, {2, 73}, {1, 0}} {
		step(t, "in", b, func(s *state) { s.c.R[x.a] = x.key; s.c.PC++ })
		if n := room(b); n != min(api.MaxKeys, api.MaxKeys-2+k) {
			t.Errorf("in %d: room for %d keys", k, n)
		}
	}
}

// P8.2 Bwr, Brd: sectors go round; each holds what was written last; Brd into the register that names the sector.
func TestP8_2Sectors(t *testing.T) {
	b := machine(t, kernel(t, w(api.Bwr, 1, 2, 0), w(api.Bwr, 3, 4, 0), w(api.Brd, 5, 6, 0), w(api.Brd, 3, 3, 0), w(api.Brd, 7, 8, 0), w(api.Bwr, 8, 1, 0), w(api.Brd, 8, 8, 0)),
		api.CPU{PC: start, R: api.Regs16{1: 17, 2: 100, 3: most, 4: 200, 6: 1, 8: 31}})
	step(t, "bwr", b, func(s *state) { s.show(api.SeenWrite, 1, 100); s.c.PC++ })
	step(t, "bwr", b, func(s *state) { s.show(api.SeenWrite, 15, 200); s.c.PC++ })
	step(t, "brd", b, func(s *state) { s.c.R[5] = 100; s.c.PC++ })
	step(t, "brd", b, func(s *state) { s.c.R[3] = 200; s.c.PC++ })
	step(t, "brd", b, func(s *state) { s.c.R[7] = 200; s.c.PC++ })
	step(t, "bwr", b, func(s *state) { s.show(api.SeenWrite, 15, 17); s.c.PC++ })
	step(t, "brd", b, func(s *state) { s.c.R[8] = 17; s.c.PC++ })
}

// P8.2 Gtm: the time ahead of the step itself.
func TestP8_2Gtm(t *testing.T) {
	b := machine(t, kernel(t, w(api.Gtm, 1, 0, 0), w(api.Nop, 0, 0, 0), w(api.Gtm, 2, 0, 0), w(api.Br, 0, 0, 0xff)), unlike(start, false, false))
	step(t, "gtm", b, func(s *state) { s.c.R[1] = 0; s.c.PC++ })
	goes(t, "nop", b)
	for k := range uint32(50) {
		step(t, "gtm", b, func(s *state) { s.c.R[2] = 2 + 2*k; s.c.PC++ })
		step(t, "br", b, func(s *state) { s.c.PC-- })
	}
}

// ringing is a machine that sets its timer to after at a time, and goes round then, with interrupts on.
func ringing(t *testing.T, at int, after uint32) *bare.Machine {
	t.Helper()
	var words []uint32
	for range at {
		words = append(words, w(api.Nop, 0, 0, 0))
	}
	words = append(words, w(api.Tmr, 1, 0, 0), w(api.Br, 0, 0, 0))
	c := api.CPU{PC: start, IE: true, TV: taker, R: api.Regs16{1: after}}
	b := machine(t, code(t, kernel(t, words...), taker, w(api.Rti, 0, 0, 0)), c)
	for range at + 1 {
		goes(t, "ahead of it, and it", b)
	}
	return b
}

// P8.2 Tmr: it rings at time and A, and not before; once.
func TestP8_2Tmr(t *testing.T) {
	for _, at := range []int{0, 1, 7} {
		for _, after := range []int{1, 2, 3, 20} {
			b := ringing(t, at, uint32(after))
			for b.Now() < int64(at+after) {
				step(t, "it does not ring yet", b, func(s *state) {})
			}
			step(t, "it rings, and the taker goes back", b, func(s *state) { s.c.Cause = api.CauseTimer; s.c.Addr = 0 })
			for range 50 {
				step(t, "it rang", b, func(s *state) {})
			}
		}
	}
}

// P8.2 Tmr: of 0 it never rings, though it was set; a later one takes the place of an earlier one.
func TestP8_2TmrAgain(t *testing.T) {
	for _, x := range []struct {
		again uint32
		rings int64 // 0: never
	}{{0, 0}, {1, 3}, {2, 4}, {30, 32}, {most, 0}} {
		c := api.CPU{PC: start, IE: true, TV: taker, R: api.Regs16{1: 5, 2: x.again}}
		m := kernel(t, w(api.Nop, 0, 0, 0), w(api.Tmr, 1, 0, 0), w(api.Tmr, 2, 0, 0), w(api.Br, 0, 0, 0))
		b := machine(t, code(t, m, taker, w(api.Rti, 0, 0, 0)), c)
		run(t, b, 3)
		for b.Now() < 60 {
			now := b.Now()
			step(t, "again", b, func(s *state) {
				if now == x.rings {
					s.c.Cause = api.CauseTimer
				}
			})
		}
	}
}

// P8.2: the timer that is due waits while interrupts are off; it is ahead of a key, and the key comes next.
func TestP8_2TimerAheadOfKey(t *testing.T) {
	m := kernel(t, w(api.Tmr, 1, 0, 0), w(api.Nop, 0, 0, 0), w(api.Nop, 0, 0, 0), w(api.Nop, 0, 0, 0), w(api.Sti, 0, 0, 0), w(api.Br, 0, 0, 0))
	b := machine(t, code(t, m, taker, w(api.Gcs, 4, 0, 0), w(api.Rti, 0, 0, 0)), api.CPU{PC: start, TV: taker, R: api.Regs16{1: 1}})
	press(t, b, 71)
	for range 4 {
		goes(t, "it is off", b)
	}
	step(t, "sti", b, func(s *state) { s.c.IE = true; s.c.PC++ })
	step(t, "the timer", b, func(s *state) { s.enter(api.CauseTimer, 0); s.c.R[4] = api.CauseTimer; s.c.PC++ })
	back := func(s *state) { s.c.PC, s.c.IE, s.c.EPC, s.c.EIE = start+5, true, 0, false }
	step(t, "back", b, back)
	step(t, "the key", b, func(s *state) { s.enter(api.CauseKey, 0); s.c.R[4] = api.CauseKey; s.c.PC++ })
	step(t, "back", b, back)
}

// P8.2: a key that interrupts ahead of the timer's time leaves it set: it rings at its time.
func TestP8_2KeyAheadOfTimer(t *testing.T) {
	m := kernel(t, w(api.Tmr, 1, 0, 0), w(api.Br, 0, 0, 0))
	b := machine(t, code(t, m, taker, w(api.In, 4, 0, 0), w(api.Rti, 0, 0, 0)), api.CPU{PC: start, IE: true, TV: taker, R: api.Regs16{1: 9}})
	goes(t, "tmr", b)
	for _, key := range []uint32{71, 72} {
		press(t, b, key)
		step(t, "the key", b, func(s *state) { s.enter(api.CauseKey, 0); s.c.R[4] = key; s.c.PC++ })
		step(t, "back", b, func(s *state) { s.c.PC, s.c.IE, s.c.EPC, s.c.EIE = start+1, true, 0, false })
	}
	for b.Now() < 9 {
		step(t, "it does not ring yet", b, func(s *state) {})
	}
	step(t, "the timer", b, func(s *state) { s.enter(api.CauseTimer, 0); s.c.R[4] = 0; s.c.PC++ })
}

// P8.2: the taker may set the timer anew, and is interrupted again.
func TestP8_2TimerAnew(t *testing.T) {
	m := kernel(t, w(api.Tmr, 1, 0, 0), w(api.Br, 0, 0, 0))
	b := machine(t, code(t, m, taker, w(api.Tmr, 1, 0, 0), w(api.Rti, 0, 0, 0)), api.CPU{PC: start, IE: true, TV: taker, R: api.Regs16{1: 4}})
	run(t, b, 1)
	for k := range int64(10) {
		for b.Now() < 4*k+4 {
			if b.CPU().IE {
				step(t, "round", b, func(s *state) {})
			} else {
				step(t, "back", b, func(s *state) { s.c.PC, s.c.IE, s.c.EPC, s.c.EIE = start+1, true, 0, false })
			}
		}
		step(t, "it rings", b, func(s *state) { s.enter(api.CauseTimer, 0); s.c.PC++ })
	}
}

// P8.2 Cli, Sti, Sst, Gst: written out.
func TestP8_2State(t *testing.T) {
	words := []uint32{w(api.Gst, 1, 0, 0), w(api.Sti, 0, 0, 0), w(api.Gst, 2, 0, 0), w(api.Cli, 0, 0, 0), w(api.Sst, 5, 0, 0), w(api.Gst, 3, 0, 0), w(api.Sst, 6, 0, 0), w(api.Gst, 4, 0, 0)}
	b := machine(t, kernel(t, words...), api.CPU{PC: start, R: api.Regs16{5: 1001, 6: 1000}})
	run(t, b, len(words))
	want := api.CPU{PC: start + 8, R: api.Regs16{1: 2, 2: 3, 3: 3, 4: 2, 5: 1001, 6: 1000}}
	if b.CPU() != want {
		t.Errorf("%+v, want %+v", b.CPU(), want)
	}
}
