package bare_test

import (
	"math"
	"slices"
	"testing"

	"facade/api"
	"facade/bare"
	"facade/mem"
)

const (
	most = math.MaxUint32
	high = 1 << 31

	frames = 44
	quota  = 24 // the kernel's own frames are the tables and 17 to 23
	start  = 2048
	taker  = 2100 // where a trap is taken
)

// The rights of a page, as its entry's word has them.
const (
	plain = 1
	write = 2
	use   = 4
)

// entry is an entry's word.
func entry(frame int, rights uint32) uint32 { return uint32(frame)<<8 | plain | rights }

// w is an instruction's word.
func w(op, a, b, c int) uint32 { return uint32(op)<<24 | uint32(a)<<16 | uint32(b)<<8 | uint32(c) }

// kernel is memory with code: pages 0 and 1 stand in frames 17 (it may be written) and 18 (it may not), code in frames
// from 24 on. Frames 19 to 23, and those from 40 on, are no page's.
func kernel(t *testing.T, words ...uint32) *mem.Mem {
	t.Helper()
	m, err := mem.New(frames)
	if err != nil {
		t.Fatal(err)
	}
	for k := range 16 {
		word(t, m, k, entry(1+k, write|use))
	}
	word(t, m, 16, entry(17, write))
	word(t, m, 16+1, entry(18, 0))
	for k := range 16 {
		word(t, m, 16+128+k, entry(24+k, use))
	}
	return code(t, m, start, words...)
}

// code puts words of code from an address on.
func code(t *testing.T, m *mem.Mem, addr int, words ...uint32) *mem.Mem {
	t.Helper()
	for k, x := range words {
		if addr+k < start || addr+k >= start+256 {
			t.Fatalf("address %d is none of code", addr+k)
		}
		word(t, m, 24*16+addr+k-start, x)
	}
	return m
}

// word sets a word of memory, that has to be there.
func word(t *testing.T, m *mem.Mem, at int, x uint32) {
	t.Helper()
	if !m.Write(at, x) {
		t.Fatalf("there is no word %d", at)
	}
}

// machine is a machine of that memory and processor, with the quota that kernel's memory is made for.
func machine(t *testing.T, m *mem.Mem, c api.CPU) *bare.Machine {
	t.Helper()
	return machineOf(t, m, c, quota)
}

func machineOf(t *testing.T, m *mem.Mem, c api.CPU, quota int) *bare.Machine {
	t.Helper()
	b, err := bare.New(m, c, quota)
	if err != nil || b == nil {
		t.Fatalf("New with quota %d: %v, %v", quota, b, err)
	}
	return b
}

// unlike is a processor of which no two words are alike, and none is 0; each bool is as asked.
func unlike(pc uint32, ie, eie bool) api.CPU {
	c := api.CPU{PC: pc, IE: ie, EIE: eie, EPC: 2231, TV: taker, Cause: 991, Addr: 992}
	for k := range c.R {
		c.R[k] = 0x9e3779b9*uint32(k+1) | 1
	}
	return c
}

// standing are processors at pc, with each choice of what may be interrupted, with a place for a trap and without one.
func standing(pc uint32) []api.CPU {
	l := []api.CPU{{PC: pc}, {PC: pc, TV: taker}}
	for _, ie := range []bool{false, true} {
		for _, eie := range []bool{false, true} {
			c := unlike(pc, ie, eie)
			l = append(l, c)
			c.TV = 0
			l = append(l, c)
		}
	}
	return l
}

// edgeWords are words at which a call could go wrong.
func edgeWords() []uint32 {
	return []uint32{0, 1, 2, 3, 15, 16, 17, 127, 128, 255, 256, 2047, 2048, 4095, 4096, 1<<16 - 1, 1 << 16, high - 1, high, high + 1, most - 255, most - 1, most}
}

// state is all that is told of a machine.
type state struct {
	c       api.CPU
	now     int64
	over    bool
	waiting int
	seen    []api.Seen
	m       *mem.Mem
}

func of(b *bare.Machine) state {
	return state{b.CPU(), b.Now(), b.Over(), b.Waiting(), b.Seen(), b.Mem()}
}

// check holds a machine against all that has to be told of it.
func (s state) check(t *testing.T, what string, b *bare.Machine) {
	t.Helper()
	got := of(b)
	if got.c != s.c {
		t.Errorf("%s: the processor is\n%+v, want\n%+v", what, got.c, s.c)
	}
	if got.now != s.now || got.over != s.over || got.waiting != s.waiting {
		t.Errorf("%s: time %d, over %v, %d wait; want %d, %v, %d", what, got.now, got.over, got.waiting, s.now, s.over, s.waiting)
	}
	if !slices.Equal(got.seen, s.seen) {
		t.Errorf("%s: seen %v, want %v", what, got.seen, s.seen)
	}
	if l := mem.Differ(got.m, s.m); len(l) > 0 {
		t.Errorf("%s: frames %v are not as they have to be", what, l)
	}
}

// show shows one thing more.
func (s *state) show(kind int, a, n uint32) {
	s.seen = append(s.seen, api.Seen{Kind: kind, A: a, N: n})
}

// enter is the processor where it takes a trap.
func (s *state) enter(cause int, addr uint32) {
	s.c.EPC, s.c.EIE = s.c.PC, s.c.IE
	s.c.PC, s.c.IE = s.c.TV, false
	s.c.Cause, s.c.Addr = uint32(cause), addr
}

// trap is what becomes of a trap: it is taken, or it is the end.
func (s *state) trap(cause int, addr uint32) {
	if s.c.TV != 0 {
		s.enter(cause, addr)
		return
	}
	s.over = true
	s.show(api.SeenFault, uint32(cause), 0)
}

// fill sets a word of memory.
func (s *state) fill(t *testing.T, at int, x uint32) {
	t.Helper()
	word(t, s.m, at, x)
}

// step holds one step against what it has to change. Time is one more; what is not changed stays.
func step(t *testing.T, what string, b *bare.Machine, change func(s *state)) {
	t.Helper()
	want := of(b)
	want.now++
	change(&want)
	if !b.Step() {
		t.Errorf("%s: Step is false", what)
	}
	want.check(t, what, b)
}

// goes holds that the next step goes to the address behind an instruction of one word, and changes nothing else.
func goes(t *testing.T, what string, b *bare.Machine) {
	t.Helper()
	step(t, what, b, func(s *state) { s.c.PC++ })
}

// ended holds that a machine is over, and that no step does anything to it.
func ended(t *testing.T, what string, b *bare.Machine) {
	t.Helper()
	if !b.Over() {
		t.Errorf("%s: it is not over", what)
	}
	was := of(b)
	for range 3 {
		if b.Step() {
			t.Errorf("%s: Step is true, though it is over", what)
		}
		was.check(t, what+", another step", b)
	}
}

// run does so many steps, all of which have to be.
func run(t *testing.T, b *bare.Machine, steps int) {
	t.Helper()
	for k := range steps {
		if !b.Step() {
			t.Fatalf("step %d of %d is false: %v, %+v", k, steps, b.Seen(), b.CPU())
		}
	}
}

// press presses keys, all of which have to find room.
func press(t *testing.T, b *bare.Machine, keys ...uint32) {
	t.Helper()
	for _, key := range keys {
		if !b.Press(key) {
			t.Fatalf("Press(%d) is false", key)
		}
	}
}

// room is how many keys more a copy of the machine takes.
func room(b *bare.Machine) int {
	c := b.Clone()
	n := 0
	for n <= api.MaxKeys && c.Press(1) {
		n++
	}
	return n
}
