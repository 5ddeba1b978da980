package bare_test

import (
	"testing"

	"facade/api"
	"facade/bare"
)

// busy is a machine that has something in each of its parts: a key, a sector, a timer, updates that wait, what is seen.
func busy(t *testing.T, words ...uint32) *bare.Machine {
	t.Helper()
	first := []uint32{w(api.Bwr, 1, 2, 0), w(api.Tmr, 3, 0, 0), w(api.Spte, 4, 5, 0), w(api.Spte, 1, 5, 0), w(api.Out, 2, 0, 0)}
	c := api.CPU{PC: start, TV: taker, R: api.Regs16{1: 3, 2: 99, 3: 20, 4: 6, 5: entry(19, write)}}
	b := machine(t, code(t, kernel(t, append(first, words...)...), taker, w(api.Gcs, 12, 0, 0)), c)
	press(t, b, 71, 72)
	run(t, b, len(first))
	return b
}

// checkApart does something to one of a machine and its copy, and holds that the other one stays as it was, with room
// for as many keys; whichever it is.
func checkApart(t *testing.T, what string, words []uint32, do func(b *bare.Machine)) {
	t.Helper()
	for _, toCopy := range []bool{false, true} {
		a := busy(t, words...)
		b := a.Clone()
		if toCopy {
			a, b = b, a
		}
		was, free := of(b), room(b)
		do(a)
		was.check(t, what, b)
		if n := room(b); n != free {
			t.Errorf("%s: the other one has room for %d keys, had %d", what, n, free)
		}
	}
}

// Clone: the same is told of the copy.
func TestCloneTold(t *testing.T) {
	b := busy(t, w(api.Halt, 1, 0, 0))
	of(b).check(t, "a copy", b.Clone())
	of(b).check(t, "a copy of a copy", b.Clone().Clone())
	if n := room(b.Clone()); n != api.MaxKeys-2 {
		t.Errorf("a copy: room for %d keys", n)
	}
	run(t, b, 1)
	of(b).check(t, "a copy of one that is over", b.Clone())
	ended(t, "a copy of one that is over", b.Clone())
}

// Clone: a step, a key, an update of one change nothing in the other.
func TestCloneApart(t *testing.T) {
	for _, x := range []struct {
		what string
		op   uint32
	}{
		{"nop", w(api.Nop, 0, 0, 0)}, {"st", w(api.St, 1, 0, 3)}, {"out", w(api.Out, 1, 0, 0)}, {"in", w(api.In, 1, 0, 0)},
		{"bwr", w(api.Bwr, 1, 1, 0)}, {"tmr", w(api.Tmr, 0, 0, 0)}, {"spte", w(api.Spte, 1, 5, 0)}, {"sync", w(api.Sync, 0, 0, 0)},
		{"sti", w(api.Sti, 0, 0, 0)}, {"halt", w(api.Halt, 1, 0, 0)}, {"a trap", 0},
	} {
		checkApart(t, x.what, []uint32{x.op}, func(b *bare.Machine) { run(t, b, 1) })
	}
	checkApart(t, "a key", nil, func(b *bare.Machine) { press(t, b, 73) })
}

// Clone: each goes on by itself, from the same: the same steps tell the same, other keys tell others.
func TestCloneGoesOn(t *testing.T) {
	words := []uint32{w(api.In, 6, 0, 0), w(api.In, 7, 0, 0), w(api.In, 8, 0, 0), w(api.Brd, 9, 1, 0), w(api.Sync, 0, 0, 0), w(api.Sti, 0, 0, 0), w(api.Br, 0, 0, 0)}
	a := busy(t, words...)
	b := a.Clone()
	for a.Now() < 22 {
		run(t, a, 1)
	}
	if b.Now() != 5 {
		t.Fatalf("time of the copy: %d", b.Now())
	}
	same := b.Clone()
	for same.Now() < 22 {
		run(t, same, 1)
	}
	of(a).check(t, "the same steps", same)
	if c := a.CPU(); c.R[6] != 71 || c.R[7] != 72 || c.R[8] != 0 || c.R[9] != 99 || c.Cause != api.CauseTimer {
		t.Errorf("%+v", c)
	}
	press(t, b, 73)
	run(t, b, 3)
	if c := b.CPU(); c.R[6] != 71 || c.R[7] != 72 || c.R[8] != 73 {
		t.Errorf("%+v", c)
	}
}

// Clone: what one wrote, or did of what waited, the other one finds as it was, when it comes there later.
func TestCloneLater(t *testing.T) {
	words := []uint32{w(api.Brd, 9, 1, 0), w(api.Bwr, 1, 4, 0), w(api.Brd, 10, 1, 0), w(api.Sync, 0, 0, 0)}
	a := busy(t, words...)
	for _, b := range []*bare.Machine{a, a.Clone(), a.Clone().Clone()} { // all of them are made ahead of the first step
		step(t, "brd", b, func(s *state) { s.c.R[9] = 99; s.c.PC++ })
		step(t, "bwr", b, func(s *state) { s.show(api.SeenWrite, 3, 6); s.c.PC++ })
		step(t, "brd", b, func(s *state) { s.c.R[10] = 6; s.c.PC++ })
		sync(t, "sync", b, 16+6, int(entry(19, write)), 16+3, int(entry(19, write)))
	}
}

// Clone: updates that both put behind the same ones are each one's own, however much room there was behind them.
func TestCloneUpdates(t *testing.T) {
	for count := range api.MaxQueue {
		var words []uint32
		for range count {
			words = append(words, w(api.Spte, 1, 2, 0))
		}
		m := kernel(t, append(words, w(api.In, 3, 0, 0), w(api.Spte, 3, 2, 0), w(api.Sync, 0, 0, 0))...)
		a := machine(t, m, api.CPU{PC: start, R: api.Regs16{1: 5, 2: entry(19, 0)}})
		run(t, a, count)
		b := a.Clone()
		press(t, a, 40)
		press(t, b, 50)
		run(t, a, 2)
		run(t, b, 2)
		checkDone(t, a, count, 40, 50)
		checkDone(t, b, count, 50, 40)
	}
}

// checkDone holds the next Sync against so many updates of page 5, and one of a page; another page stays as it was.
func checkDone(t *testing.T, b *bare.Machine, count, page, other int) {
	t.Helper()
	e := int(entry(19, 0))
	changed := []int{16 + page, e}
	if count > 0 {
		changed = append(changed, 16+5, e)
	}
	sync(t, "its own", b, changed...)
	if x, _ := b.Mem().Read(16 + other); x != 0 {
		t.Errorf("page %d is %d, want 0", other, x)
	}
}
