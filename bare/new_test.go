package bare_test

import (
	"errors"
	"math"
	"testing"

	"facade/api"
	"facade/bare"
	"facade/mem"
)

// P8.1: a quota that is not Tables to MaxQuota is ErrRange, and there is no machine.
func TestP8_1Quota(t *testing.T) {
	m := kernel(t)
	for _, q := range []int{math.MinInt, -1 << 32, -api.Tables, -1, 0, 1, api.Tables - 1, api.MaxQuota + 1, api.MaxFrames, 1<<32 + api.Tables, math.MaxInt} {
		if b, err := bare.New(m, api.CPU{}, q); b != nil || !errors.Is(err, api.ErrRange) {
			t.Errorf("quota %d: %v, %v, want none and ErrRange", q, b, err)
		}
	}
	for _, q := range []int{api.Tables, api.Tables + 1, quota, api.MaxQuota - 1, api.MaxQuota} {
		if b, err := bare.New(m, api.CPU{}, q); b == nil || err != nil {
			t.Errorf("quota %d: %v, %v, want one", q, b, err)
		}
	}
}

// P8.1: any memory will do: of one frame, of fewer than its tables, of fewer than quota, of as many as there can be.
func TestP8_1AnyMemory(t *testing.T) {
	for _, n := range []int{1, 2, api.Tables - 1, api.Tables, quota - 1, api.MaxFrames} {
		m, err := mem.New(n)
		if err != nil {
			t.Fatal(err)
		}
		word(t, m, n*16-1, 77)
		b := machineOf(t, m, api.CPU{PC: start, TV: start}, api.MaxQuota)
		state{c: api.CPU{PC: start, TV: start}, m: m}.check(t, "any memory", b)
		step(t, "there is no page", b, func(s *state) { s.enter(api.CausePage, start) })
	}
}

// P8.1: memory and processor as they were handed in, time 0, nothing seen, nothing that waits, and not over.
func TestP8_1AsGiven(t *testing.T) {
	for _, pc := range []uint32{0, start, 4095, 4096, high, most} {
		for _, c := range standing(pc) {
			m := kernel(t, w(api.Nop, 0, 0, 0))
			b := machine(t, m, c)
			state{c: c, m: m}.check(t, "new", b)
			if n := room(b); n != api.MaxKeys {
				t.Errorf("new: room for %d keys, want %d", n, api.MaxKeys)
			}
		}
	}
}

// P8.1: the memory is a copy: neither what is written to the one that was handed in, nor what the machine writes, is
// seen on the other side.
func TestP8_1MemoryCopied(t *testing.T) {
	m := kernel(t, w(api.St, 1, 2, 3), w(api.Spte, 3, 4, 0), w(api.Sync, 0, 0, 0))
	was := m.Clone()
	b := machine(t, m, api.CPU{PC: start, R: api.Regs16{1: 99, 3: 5, 4: entry(19, write)}})
	step(t, "a store", b, func(s *state) { s.fill(t, 17*16+3, 99); s.c.PC++ })
	run(t, b, 2)
	if l := mem.Differ(m, was); len(l) > 0 {
		t.Errorf("the machine wrote frames %v of what was handed in", l)
	}
	after := of(b)
	for f := range m.Frames() {
		m.Fill(f, most, most)
	}
	after.check(t, "what was handed in was written", b)
}

// P8.1: machines of one memory are each their own.
func TestP8_1Apart(t *testing.T) {
	m := kernel(t, w(api.St, 1, 2, 3), w(api.Out, 1, 0, 0))
	c := api.CPU{PC: start, R: api.Regs16{1: 99}}
	a, b := machine(t, m, c), machine(t, m, c)
	press(t, a, 1, 2, 3)
	run(t, a, 2)
	state{c: c, m: m}.check(t, "the other one", b)
	if n := room(b); n != api.MaxKeys {
		t.Errorf("the other one: room for %d keys, want %d", n, api.MaxKeys)
	}
}

// P8.1: devices as new: no key, each sector 0, and a timer that never rings.
func TestP8_1Devices(t *testing.T) {
	words := []uint32{w(api.In, 5, 0, 0)}
	for k := range 16 {
		words = append(words, w(api.Li, 6, 0, 0), uint32(k), w(api.Brd, 7, 6, 0))
	}
	words = append(words, w(api.Sti, 0, 0, 0))
	b := machine(t, kernel(t, append(words, w(api.Br, 0, 0, 0))...), unlike(start, false, false))
	step(t, "in", b, func(s *state) { s.c.R[5] = 0; s.c.PC++ })
	for k := range 16 {
		step(t, "li", b, func(s *state) { s.c.R[6] = uint32(k); s.c.PC += 2 })
		step(t, "brd", b, func(s *state) { s.c.R[7] = 0; s.c.PC++ })
	}
	step(t, "sti", b, func(s *state) { s.c.IE = true; s.c.PC++ })
	for range 300 {
		step(t, "it is on, and nothing interrupts", b, func(s *state) {})
	}
}

// The chapter's example: a new one: time 0.
func TestP8_1Example(t *testing.T) {
	if now := machine(t, kernel(t), api.CPU{}).Now(); now != 0 {
		t.Errorf("time %d, want 0", now)
	}
}
