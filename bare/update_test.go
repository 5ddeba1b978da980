package bare_test

import (
	"testing"

	"facade/api"
	"facade/bare"
	"facade/mem"
)

// asked is an update that a machine is asked for.
type asked struct{ page, word uint32 }

// asking is memory whose code asks for updates, each by three instructions, then does them (Sync), and goes round.
func asking(t *testing.T, l ...asked) *mem.Mem {
	t.Helper()
	var words []uint32
	for _, u := range l {
		words = append(words, w(api.Li, 1, 0, 0), u.page, w(api.Li, 2, 0, 0), u.word, w(api.Spte, 1, 2, 0))
	}
	return kernel(t, append(words, w(api.Sync, 0, 0, 0), w(api.Br, 0, 0, 0))...)
}

// ask asks for all of these by the code of asking; count is how many wait behind each.
func ask(t *testing.T, b *bare.Machine, l []asked, count func(k int) int) {
	t.Helper()
	for k, u := range l {
		step(t, "the page", b, func(s *state) { s.c.R[1] = u.page; s.c.PC += 2 })
		step(t, "the word", b, func(s *state) { s.c.R[2] = u.word; s.c.PC += 2 })
		step(t, "spte", b, func(s *state) { s.waiting = count(k); s.c.PC++ })
	}
}

// sync holds that the next step does what waits: places of memory and words of them, that change.
func sync(t *testing.T, what string, b *bare.Machine, changed ...int) {
	t.Helper()
	step(t, what, b, func(s *state) {
		for k := 0; k+1 < len(changed); k += 2 {
			s.fill(t, changed[k], uint32(changed[k+1]))
		}
		s.waiting = 0
		s.c.PC++
	})
}

// checkOne holds one update, asked for and done, against whether it has to wait, by that quota.
func checkOne(t *testing.T, what string, quota int, u asked, is bool) {
	t.Helper()
	b := machineOf(t, asking(t, u), api.CPU{PC: start}, quota)
	if !is {
		ask(t, b, []asked{u}, func(int) int { return 0 })
		sync(t, what, b)
		return
	}
	ask(t, b, []asked{u}, func(int) int { return 1 })
	sync(t, what, b, 16+int(u.page), int(u.word))
}

// P8.2 Spte: pages below CodePage wait, others say nothing; the page is the whole word.
func TestP8_2SptePages(t *testing.T) {
	for page := range uint32(300) {
		checkOne(t, "a page", quota, asked{page, entry(19, write)}, page < 128)
	}
	for _, page := range []uint32{1 << 8, 1 << 16, 1<<16 + 5, high - 1, high, high + 5, most - 255, most - 128, most - 1, most} {
		checkOne(t, "no page", quota, asked{page, entry(19, write)}, false)
		checkOne(t, "no page, no entry", quota, asked{page, 0}, false)
	}
}

// P8.2 Spte: frames from Tables to below quota may be named, with any rights; those of tables, and from quota on, not.
func TestP8_2SpteFrames(t *testing.T) {
	for _, q := range []int{api.Tables, api.Tables + 1, quota, api.MaxQuota - 1, api.MaxQuota} {
		for _, f := range []int{0, 1, 15, 16, 17, 18, q - 1, q, q + 1, 254, 255, 256, 257, 512, api.MaxFrames - 1} {
			for _, rights := range []uint32{0, write, use, write | use} {
				checkOne(t, "a frame", q, asked{5, entry(f, rights)}, f >= 17 && f < q)
			}
		}
		checkOne(t, "it is not there", q, asked{5, 0}, true)
	}
}

// P8.2 Spte: a word that is no entry's Bits says nothing: a bit that no entry has, a frame that can't be, rights or a
// frame of one that is not there.
func TestP8_2SpteNoEntry(t *testing.T) {
	for _, x := range []uint32{2, 4, 6, 8, 16, 32, 64, 128, 255, 256, 19 << 8, 19<<8 | write, 19<<8 | use, 1<<18 | plain, 1<<18 | 19<<8 | plain, high, high | 19<<8 | plain, most, most - 1} {
		checkOne(t, "no entry", quota, asked{5, x}, false)
	}
	for bit := 3; bit < 8; bit++ {
		checkOne(t, "a bit that no entry has", quota, asked{5, entry(19, write|use) | 1<<bit}, false)
	}
}

// P8.2 Spte: memory is as it was until it is done, and the page stands where it stood.
func TestP8_2SpteWaits(t *testing.T) {
	m := kernel(t, w(api.Spte, 1, 2, 0), w(api.St, 3, 0, 4), w(api.Sync, 0, 0, 0), w(api.Ld, 5, 0, 4), w(api.St, 3, 0, 5), w(api.St, 3, 4, 0))
	word(t, m, 19*16+4, 555)
	b := machine(t, m, api.CPU{PC: start, TV: taker, R: api.Regs16{2: entry(19, write), 3: 77, 4: 16}})
	step(t, "spte", b, func(s *state) { s.waiting = 1; s.c.PC++ })
	step(t, "a store goes to the frame as it was", b, func(s *state) { s.fill(t, 17*16+4, 77); s.c.PC++ })
	sync(t, "sync", b, 16, int(entry(19, write)))
	step(t, "a load comes from the other", b, func(s *state) { s.c.R[5] = 555; s.c.PC++ })
	step(t, "a store goes to the other", b, func(s *state) { s.fill(t, 19*16+5, 77); s.c.PC++ })
	step(t, "page 1 is as it was", b, func(s *state) { s.enter(api.CausePage, 16) })
}

// P8.2 Spte: a page that is taken, or may not be written any more, faults behind the Sync, not ahead of it.
func TestP8_2SpteTakes(t *testing.T) {
	for _, x := range []struct {
		entry uint32
		load  bool
	}{{0, false}, {entry(17, 0), true}} {
		m := kernel(t, w(api.Spte, 1, 2, 0), w(api.St, 3, 0, 4), w(api.Sync, 0, 0, 0), w(api.Ld, 5, 0, 4), w(api.St, 3, 0, 4))
		b := machine(t, m, api.CPU{PC: start, TV: taker, R: api.Regs16{2: x.entry, 3: 77}})
		step(t, "spte", b, func(s *state) { s.waiting = 1; s.c.PC++ })
		step(t, "ahead of it", b, func(s *state) { s.fill(t, 17*16+4, 77); s.c.PC++ })
		sync(t, "sync", b, 16, int(x.entry))
		if x.load {
			step(t, "it may be read", b, func(s *state) { s.c.R[5] = 77; s.c.PC++ })
		}
		step(t, "it faults", b, func(s *state) { s.enter(api.CausePage, 4) })
	}
}

// P8.2: where MaxQueue wait they are done first, by one more that may wait, and that one waits alone.
func TestP8_2SpteMany(t *testing.T) {
	var l []asked
	for k := range 35 {
		l = append(l, asked{uint32(2 + 3*k), entry(17+k%7, uint32(2*(k%4)))})
	}
	b := machine(t, asking(t, l...), api.CPU{PC: start})
	ask(t, b, l[:16], func(k int) int { return k + 1 })
	for group := 1; group <= 2; group++ {
		step(t, "the page", b, func(s *state) { s.c.R[1] = l[16*group].page; s.c.PC += 2 })
		step(t, "the word", b, func(s *state) { s.c.R[2] = l[16*group].word; s.c.PC += 2 })
		step(t, "one more", b, func(s *state) {
			for _, u := range l[16*group-16 : 16*group] {
				s.fill(t, 16+int(u.page), u.word)
			}
			s.waiting = 1
			s.c.PC++
		})
		ask(t, b, l[16*group+1:min(16*group+16, len(l))], func(k int) int { return k + 2 })
	}
	var changed []int
	for _, u := range l[32:] {
		changed = append(changed, 16+int(u.page), int(u.word))
	}
	sync(t, "the rest", b, changed...)
}

// P8.2: one that may not wait does nothing to those that wait, be they MaxQueue.
func TestP8_2SpteManyAndNone(t *testing.T) {
	var l []asked
	for k := range 16 {
		l = append(l, asked{uint32(k), 0})
	}
	l = append(l, asked{128, entry(19, 0)}, asked{most, 0}, asked{5, entry(16, 0)}, asked{5, entry(quota, 0)}, asked{5, 8}, asked{5, 256})
	b := machine(t, asking(t, l...), api.CPU{PC: start})
	ask(t, b, l, func(k int) int { return min(k+1, 16) })
	var changed []int
	for k := range 16 {
		changed = append(changed, 16+k, 0)
	}
	sync(t, "all of them", b, changed...)
}

// P8.2 Sync: each in order: of one page the last one stays, and others between.
func TestP8_2SyncInOrder(t *testing.T) {
	for _, l := range [][]asked{
		{{5, entry(19, 0)}, {5, entry(20, write)}},
		{{5, entry(20, write)}, {5, entry(19, 0)}},
		{{5, entry(20, write)}, {5, 0}},
		{{5, 0}, {5, entry(20, write)}},
		{{5, entry(19, 0)}, {6, entry(21, 0)}, {5, entry(20, 0)}, {6, 0}, {7, entry(22, 0)}, {5, entry(18, use)}},
	} {
		m := asking(t, l...)
		word(t, m, 16+5, entry(23, 0))
		b := machine(t, m, api.CPU{PC: start})
		ask(t, b, l, func(k int) int { return k + 1 })
		var changed []int
		for _, u := range l {
			changed = append(changed, 16+int(u.page), int(u.word))
		}
		sync(t, "in order", b, changed...)
	}
}

// P8.2 Sync: of none nothing; of those that were done nothing any more.
func TestP8_2SyncNone(t *testing.T) {
	b := machine(t, kernel(t, w(api.Sync, 0, 0, 0), w(api.Spte, 1, 2, 0), w(api.Sync, 0, 0, 0), w(api.St, 3, 4, 0), w(api.Sync, 0, 0, 0)),
		api.CPU{PC: start, R: api.Regs16{1: 5, 2: entry(1, 0), 3: 99}})
	goes(t, "none", b)
	goes(t, "one that may not wait", b)
	goes(t, "none", b)
	m := kernel(t, w(api.Spte, 1, 2, 0), w(api.Sync, 0, 0, 0), w(api.St, 3, 4, 5), w(api.Sync, 0, 0, 0))
	word(t, m, 16, entry(1, write)) // page 0 is the first table of the second level
	b = machine(t, m, api.CPU{PC: start, R: api.Regs16{1: 5, 2: entry(19, 0), 3: 99}})
	step(t, "spte", b, func(s *state) { s.waiting = 1; s.c.PC++ })
	sync(t, "sync", b, 16+5, int(entry(19, 0)))
	step(t, "a store over it", b, func(s *state) { s.fill(t, 16+5, 99); s.c.PC++ })
	goes(t, "it is not done again", b)
}

// P8.2 Sync: where root's entry is not there, or is none, or its frame is none of memory, nothing is done; the others
// are, wherever root's entry has their table.
func TestP8_2SyncTables(t *testing.T) {
	l := []asked{{3, entry(19, 0)}, {35, entry(20, 0)}, {4, entry(21, 0)}, {127, 0}, {126, entry(22, 0)}}
	for _, first := range []uint32{0, 1 << 8, 1<<8 | write, 1<<8 | plain | 8, 1<<18 | plain, 256 - 1, most, entry(frames, write), entry(api.MaxFrames-1, 0)} {
		m := asking(t, l...)
		word(t, m, 0, first)
		word(t, m, 7, entry(23, 0)) // the rights of the first level count for nothing
		b := machine(t, m, api.CPU{PC: start})
		ask(t, b, l, func(k int) int { return k + 1 })
		sync(t, "a table that is not there", b, 16+35, int(entry(20, 0)), 23*16+15, 0, 23*16+14, int(entry(22, 0)))
	}
	for _, first := range []uint32{entry(1, 0), entry(1, write), entry(1, use)} {
		m := asking(t, l...)
		word(t, m, 0, first)
		b := machine(t, m, api.CPU{PC: start})
		ask(t, b, l, func(k int) int { return k + 1 })
		sync(t, "a table that is", b, 16+35, int(entry(20, 0)), 16+3, int(entry(19, 0)), 16+4, int(entry(21, 0)), 16+126, int(entry(22, 0)))
	}
}

// P8.2 Sync: root's entry is asked for when the update is done: one that an update wrote just ahead counts.
func TestP8_2SyncRoot(t *testing.T) {
	l := []asked{{1, entry(20, 0)}, {16 + 3, entry(21, write)}, {1, 0}, {16 + 4, entry(22, 0)}, {1, entry(19, 0)}, {16 + 4, entry(18, 0)}}
	m := asking(t, l...)
	word(t, m, 0, entry(0, 0)) // the first level is its own first table
	b := machine(t, m, api.CPU{PC: start})
	ask(t, b, l, func(k int) int { return k + 1 })
	sync(t, "root", b, 1, int(entry(19, 0)), 20*16+3, int(entry(21, write)), 19*16+4, int(entry(18, 0)))
}

// P8.2 Sync: a store into root ahead of it counts, too; Spte looks at no table.
func TestP8_2SyncStored(t *testing.T) {
	m := kernel(t, w(api.Spte, 1, 2, 0), w(api.St, 3, 4, 0), w(api.Sync, 0, 0, 0))
	word(t, m, 16, entry(0, write)) // page 0 is root
	word(t, m, 2, 0)
	b := machine(t, m, api.CPU{PC: start, R: api.Regs16{1: 37, 2: entry(19, 0), 3: entry(21, 0), 4: 2}})
	step(t, "spte", b, func(s *state) { s.waiting = 1; s.c.PC++ })
	step(t, "a store", b, func(s *state) { s.fill(t, 2, entry(21, 0)); s.c.PC++ })
	sync(t, "sync", b, 21*16+5, int(entry(19, 0)))
}

// P8.2: updates wait across traps and interrupts, and are not done by the end.
func TestP8_2UpdatesWaitOn(t *testing.T) {
	m := kernel(t, w(api.Spte, 1, 2, 0), 0)
	b := machine(t, code(t, m, taker, w(api.Spte, 3, 2, 0), w(api.Sti, 0, 0, 0)), api.CPU{PC: start, TV: taker, R: api.Regs16{1: 5, 2: entry(19, 0), 3: 6}})
	step(t, "spte", b, func(s *state) { s.waiting = 1; s.c.PC++ })
	step(t, "a trap", b, func(s *state) { s.enter(api.CauseBad, 0) })
	step(t, "spte", b, func(s *state) { s.waiting = 2; s.c.PC++ })
	step(t, "sti", b, func(s *state) { s.c.IE = true; s.c.PC++ })
	press(t, b, 71)
	step(t, "a key", b, func(s *state) { s.enter(api.CauseKey, 0); s.waiting = 3; s.c.PC++ })
	b = machine(t, kernel(t, w(api.Spte, 1, 2, 0), w(api.Halt, 0, 0, 0)), api.CPU{PC: start, R: api.Regs16{1: 5, 2: entry(19, 0)}})
	step(t, "spte", b, func(s *state) { s.waiting = 1; s.c.PC++ })
	step(t, "halt", b, func(s *state) { s.over = true; s.show(api.SeenHalt, 0, 0) })
	ended(t, "halt", b)
}
