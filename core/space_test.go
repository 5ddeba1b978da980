package core_test

import (
	"math"
	"testing"

	"facade/api"
	"facade/core"
	"facade/mem"
)

const (
	most = math.MaxUint32
	high = 1 << 31
	root = 3 // the first level's frame; the second level's are the 16 behind it
	last = 4095
)

// The rights of a page, as its entry's word has them.
const (
	plain = 1
	write = 2
	use   = 4
)

// space is an address space in memory, as its own books have it.
type space struct {
	t      *testing.T
	m      *mem.Mem
	frames map[int]int // of pages that were given
	next   int
}

// blank is a space without a page, in a memory of so many frames. The second level is there from the beginning.
func blank(t *testing.T, frames int) *space {
	t.Helper()
	m, err := mem.New(frames)
	if err != nil {
		t.Fatal(err)
	}
	s := &space{t, m, map[int]int{}, frames - 1}
	for k := range 16 {
		s.word(root*16+k, uint32((root+1+k)<<8+plain))
	}
	return s
}

// word sets a word of memory, that has to be there.
func (s *space) word(at int, w uint32) {
	s.t.Helper()
	if !s.m.Write(at, w) {
		s.t.Fatalf("there is no word %d", at)
	}
}

// give gives pages with these rights; one behind the other stands in the frame below.
func (s *space) give(rights uint32, pages ...int) *space {
	s.t.Helper()
	for _, p := range pages {
		s.frames[p] = s.next
		s.next--
		s.allow(rights, p)
	}
	return s
}

// allow sets the rights of a page that was given.
func (s *space) allow(rights uint32, page int) {
	s.t.Helper()
	s.word((root+1)*16+page, uint32(s.frames[page])<<8|plain|rights)
}

// take takes a page's entry; its frame stays as it is.
func (s *space) take(page int) {
	s.t.Helper()
	s.word((root+1)*16+page, 0)
}

// at is where an address's word stands.
func (s *space) at(addr uint32) int {
	s.t.Helper()
	f, is := s.frames[int(addr/16)]
	if !is {
		s.t.Fatalf("address %d has no page", addr)
	}
	return f*16 + int(addr%16)
}

// put sets words from an address on.
func (s *space) put(addr uint32, words ...uint32) *space {
	s.t.Helper()
	for k, w := range words {
		s.word(s.at(addr+uint32(k)), w)
	}
	return s
}

// get is the word at an address.
func (s *space) get(addr uint32) uint32 {
	s.t.Helper()
	w, is := s.m.Read(s.at(addr))
	if !is {
		s.t.Fatalf("address %d has no word", addr)
	}
	return w
}

// w is an instruction's word.
func w(op, a, b, c int) uint32 { return uint32(op)<<24 | uint32(a)<<16 | uint32(b)<<8 | uint32(c) }

// words are an instruction's words.
func words(i api.Instr) []uint32 {
	if isTwo(i.Op) {
		return []uint32{w(i.Op, i.A, i.B, i.C), i.Imm}
	}
	return []uint32{w(i.Op, i.A, i.B, i.C)}
}

// size is how many words an instruction has.
func size(i api.Instr) uint32 { return uint32(len(words(i))) }

func isTwo(op int) bool {
	switch op {
	case api.Li, api.La, api.Jmp, api.Jz, api.Jn, api.Call, api.Hc:
		return true
	}
	return false
}

// form is what an instruction has: registers (r), numbers (n), or nothing (-) as A, B and C.
type form struct {
	op  int
	has string
}

// forms are those of all instructions.
func forms() []form {
	var l []form
	for _, x := range []struct {
		has string
		ops []int
	}{
		{"---", []int{api.Nop, api.Rti, api.Sync, api.Cli, api.Sti, api.Jmp, api.Call, api.Hc}},
		{"r--", []int{api.Li, api.La, api.Jz, api.Jn, api.Jr, api.Halt, api.Stv, api.Out, api.In, api.Tmr, api.Gtm, api.Gcs, api.Gfa, api.Gst, api.Sst}},
		{"rr-", []int{api.Mov, api.Bwr, api.Brd, api.Spte}},
		{"rrr", []int{api.Add, api.Sub, api.And, api.Or, api.Xor, api.Shl, api.Shr, api.Lt, api.Eq, api.Mul}},
		{"rrn", []int{api.Ld, api.St}},
		{"--n", []int{api.Br}},
		{"r-n", []int{api.Brz, api.Brn}},
	} {
		for _, op := range x.ops {
			l = append(l, form{op, x.has})
		}
	}
	return l
}

// one is an instruction of the form: what it has is a, b and c, the rest 0.
func (f form) one(a, b, c int, imm uint32) api.Instr {
	i := api.Instr{Op: f.op}
	parts := []*int{&i.A, &i.B, &i.C}
	for k, n := range []int{a, b, c} {
		if f.has[k] != '-' {
			*parts[k] = n
		}
	}
	if isTwo(f.op) {
		i.Imm = imm
	}
	return i
}

// all is one instruction of each form.
func all() []api.Instr {
	var l []api.Instr
	for _, f := range forms() {
		l = append(l, f.one(7, 2, 5, 99))
	}
	return l
}

// edgeWords are words at which a call could go wrong.
func edgeWords() []uint32 {
	return []uint32{0, 1, 2, 15, 16, 17, 255, 256, 2047, 2048, last, last + 1, 1<<16 - 1, 1 << 16, high - 1, high, high + 1, most - 255, most - 1, most}
}

// unlike is a processor of which no two words are alike, and none is 0; each bool is as asked.
func unlike(pc uint32, ie, eie bool) api.CPU {
	c := api.CPU{PC: pc, IE: ie, EIE: eie, EPC: 3001, TV: 2100, Cause: 991, Addr: 992}
	for k := range c.R {
		c.R[k] = 0x9e3779b9*uint32(k+1) | 1
	}
	return c
}

// standing are processors at pc, with each choice of what may be interrupted.
func standing(pc uint32) []api.CPU {
	return []api.CPU{unlike(pc, false, false), unlike(pc, false, true), unlike(pc, true, false), unlike(pc, true, true), {PC: pc}}
}

// page is a CausePage without an instruction, bad a CauseBad, good an instruction.
func page(addr uint32) core.Stop { return core.Stop{Cause: api.CausePage, Addr: addr} }

func bad() core.Stop { return core.Stop{Cause: api.CauseBad} }

func good(i api.Instr) core.Stop { return core.Stop{In: i, Len: size(i)} }

// checkFetch holds Fetch against how it has to end; where it doesn't end with an instruction, Once against it too.
// Neither may write.
func (s *space) checkFetch(what string, pc uint32, user bool, want core.Stop) {
	s.t.Helper()
	s.checkFetchBy(what, root, pc, user, want)
}

func (s *space) checkFetchBy(what string, root int, pc uint32, user bool, want core.Stop) {
	s.t.Helper()
	before := s.m.Clone()
	if in, got := core.Fetch(s.m, root, pc, user); in != want.In || got != want {
		s.t.Errorf("%s: Fetch at %d, user %v: %v, %+v, want %+v", what, pc, user, in, got, want)
	}
	if want.Cause != 0 {
		for _, c := range standing(pc) {
			if next, got := core.Once(s.m, root, c, user); next != c || got != want {
				s.t.Errorf("%s: Once at %d, user %v: %+v, %+v, want %+v, %+v", what, pc, user, next, got, c, want)
			}
		}
	}
	if l := mem.Differ(s.m, before); len(l) > 0 {
		s.t.Errorf("%s: frames %v are written", what, l)
	}
}

// checkBoth is checkFetch of the supervisor and of a user.
func (s *space) checkBoth(what string, pc uint32, want core.Stop) {
	s.t.Helper()
	s.checkFetch(what, pc, false, want)
	s.checkFetch(what, pc, true, want)
}

// checkOnce holds Once against the processor behind it, and how it has to end; words of memory other than those that
// are named as addresses and words stay.
func (s *space) checkOnce(what string, c api.CPU, user bool, next api.CPU, want core.Stop, stored ...uint32) {
	s.t.Helper()
	was := c
	after := s.m.Clone()
	for k := 0; k+1 < len(stored); k += 2 {
		after.Write(s.at(stored[k]), stored[k+1])
	}
	if got, stop := core.Once(s.m, root, c, user); got != next || stop != want {
		s.t.Errorf("%s: Once of %+v, user %v:\n%+v, %+v, want\n%+v, %+v", what, c, user, got, stop, next, want)
	}
	if c != was {
		s.t.Errorf("%s: what was handed in is %+v, was %+v", what, c, was)
	}
	if l := mem.Differ(s.m, after); len(l) > 0 {
		s.t.Errorf("%s: frames %v are not as they have to be", what, l)
	}
}
