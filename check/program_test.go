package check_test

import (
	"math"
	"slices"
	"testing"

	"facade/api"
	"facade/bare"
	"facade/check"
	"facade/mem"
)

const (
	most  = math.MaxUint32
	base  = 2048 // where code begins
	quota = 25   // that of nearly all images here: data in frames from 17 on, code from 25 on
)

// line is what stands in code: an instruction, or a word that is none's beginning.
type line struct {
	words []uint32
	place bool // its second word is one of Places
	table bool // no instruction begins here
}

// w is an instruction's word.
func w(op, a, b, c int) uint32 { return uint32(op)<<24 | uint32(a)<<16 | uint32(b)<<8 | uint32(c) }

// op is an instruction of one word.
func op(op, a, b, c int) line { return line{words: []uint32{w(op, a, b, c)}} }

// two is an instruction of two words.
func two(op, a int, imm uint32) line { return line{words: []uint32{w(op, a, 0, 0), imm}} }

// li brings a number into a register, la a place of code.
func li(a int, n uint32) line { return two(api.Li, a, n) }
func la(a int, n uint32) line { return placed(two(api.La, a, n)) }

// placed is a line whose second word is one of Places.
func placed(l line) line {
	l.place = true
	return l
}

// hidden is a line that is not named as one that begins an instruction.
func hidden(l line) line {
	l.table = true
	return l
}

// word is a word that is said to begin an instruction.
func word(x uint32) line { return line{words: []uint32{x}} }

// dataWord is a word of data: none of them is 0.
func dataWord(k int) uint32 { return 0xda000001 + uint32(k) }

// image is an image of these lines, with so many words of data, that begins at the first line.
func image(data int, lines ...line) api.Image {
	i := api.Image{Entry: base}
	for k := range data {
		i.Data = append(i.Data, dataWord(k))
	}
	for _, l := range lines {
		if !l.table {
			i.Starts = append(i.Starts, len(i.Code))
		}
		if l.place {
			i.Places = append(i.Places, len(i.Code)+1)
		}
		i.Code = append(i.Code, l.words...)
	}
	return i
}

// join is lists of lines, one behind the other.
func join(l ...[]line) []line { return slices.Concat(l...) }

// at is lines, and behind them so many words that are none's beginning that the next one stands at an address.
func at(t *testing.T, addr int, lines ...line) []line {
	t.Helper()
	n := base
	for _, l := range lines {
		n += len(l.words)
	}
	if n > addr {
		t.Fatalf("these lines end at %d, behind %d", n, addr)
	}
	for ; n < addr; n++ {
		lines = append(lines, hidden(word(0)))
	}
	return lines
}

// made is the check of an image.
func made(t *testing.T, i api.Image) *check.Check {
	t.Helper()
	return madeOf(t, i, quota)
}

func madeOf(t *testing.T, i api.Image, quota int) *check.Check {
	t.Helper()
	c, err := check.New(i, quota)
	if err != nil || c == nil {
		t.Fatalf("New with quota %d: %v, %v", quota, c, err)
	}
	return c
}

// coded is the check of lines, with 20 words of data.
func coded(t *testing.T, lines ...line) *check.Check {
	t.Helper()
	return made(t, image(20, lines...))
}

// state is all that is told of a check.
type state struct {
	c       api.CPU
	now     int64
	over    bool
	waiting int
	seen    []api.Seen
	m       *mem.Mem
	keys    int // for how many there is room
	broken  int
	tagged  [16]bool
}

// of is how a check stands, by copies.
func of(c *check.Check) state {
	s := ofMachine(c.Machine())
	s.broken = c.Broken()
	for r := range s.tagged {
		s.tagged[r] = c.Tagged(r)
	}
	return s
}

// ofMachine is how a machine stands. Room for keys is looked for in a copy.
func ofMachine(b *bare.Machine) state {
	s := state{c: b.CPU(), now: b.Now(), over: b.Over(), waiting: b.Waiting(), seen: b.Seen(), m: b.Mem()}
	for b = b.Clone(); b.Press(1); {
		s.keys++
	}
	return s
}

// holds holds a check against how it has to stand.
func (s state) holds(t *testing.T, what string, c *check.Check) {
	t.Helper()
	got := of(c)
	if got.c != s.c {
		t.Errorf("%s: the processor is\n%+v, want\n%+v", what, got.c, s.c)
	}
	if got.now != s.now || got.over != s.over || got.waiting != s.waiting || got.keys != s.keys {
		t.Errorf("%s: time %d, over %v, %d wait, room for %d keys; want %d, %v, %d, %d", what, got.now, got.over, got.waiting, got.keys, s.now, s.over, s.waiting, s.keys)
	}
	if !slices.Equal(got.seen, s.seen) {
		t.Errorf("%s: seen %v, want %v", what, got.seen, s.seen)
	}
	if l := mem.Differ(got.m, s.m); len(l) > 0 {
		t.Errorf("%s: frames %v are not as they have to be", what, l)
	}
	if got.broken != s.broken || got.tagged != s.tagged {
		t.Errorf("%s: broken %d, tags %v; want %d, %v", what, got.broken, got.tagged, s.broken, s.tagged)
	}
}

// tags are these registers.
func tags(regs ...int) [16]bool {
	var l [16]bool
	for _, r := range regs {
		l[r] = true
	}
	return l
}

// goes holds that the next step breaks nothing, that it is the machine's, and that these registers are tagged behind it.
func goes(t *testing.T, what string, c *check.Check, tagged [16]bool) {
	t.Helper()
	b := c.Machine()
	if !b.Step() {
		t.Errorf("%s: the machine is over", what)
	}
	want := ofMachine(b)
	want.tagged = tagged
	if is, broken := c.Step(); !is || broken != 0 {
		t.Errorf("%s: Step is %v, %d, want true, 0", what, is, broken)
	}
	want.holds(t, what, c)
}

// run does so many steps, that break nothing, and are the machine's.
func run(t *testing.T, c *check.Check, steps int) {
	t.Helper()
	b := c.Machine()
	for k := range steps {
		b.Step()
		if is, broken := c.Step(); !is || broken != 0 {
			t.Fatalf("step %d is %v, %d, want true, 0", k, is, broken)
		}
	}
	want, got := ofMachine(b), of(c)
	want.tagged = got.tagged
	want.holds(t, "a run", c)
}

// breaks holds that the next step breaks that, that nothing else becomes of it, and that there is no step behind it.
func breaks(t *testing.T, what string, c *check.Check, broken int) {
	t.Helper()
	want := of(c)
	if want.broken != 0 {
		t.Errorf("%s: %d was broken ahead of it", what, want.broken)
	}
	want.broken = broken
	if is, got := c.Step(); !is || got != broken {
		t.Errorf("%s: Step is %v, %d, want true, %d", what, is, got, broken)
	}
	want.holds(t, what, c)
	stands(t, what, c)
}

// stands holds that a check has no step more, however often it is asked.
func stands(t *testing.T, what string, c *check.Check) {
	t.Helper()
	want := of(c)
	for range 3 {
		if is, broken := c.Step(); is || broken != 0 {
			t.Errorf("%s: a step behind it is %v, %d, want false, 0", what, is, broken)
		}
		want.holds(t, what+", and behind it", c)
	}
}

// over holds that the next step breaks nothing, but is the machine's last one, by which it shows that.
func over(t *testing.T, what string, c *check.Check, seen api.Seen) {
	t.Helper()
	goes(t, what, c, of(c).tagged)
	l := c.Machine().Seen()
	if !c.Machine().Over() || len(l) == 0 || l[len(l)-1] != seen {
		t.Errorf("%s: over %v, seen %v, want %v last", what, c.Machine().Over(), l, seen)
	}
	stands(t, what, c)
}

// press lets keys wait, for which there is room.
func press(t *testing.T, c *check.Check, keys ...uint32) {
	t.Helper()
	for _, key := range keys {
		if !c.Press(key) {
			t.Fatalf("no room for key %d", key)
		}
	}
}
