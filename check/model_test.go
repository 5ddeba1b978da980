package check_test

import (
	"slices"
	"testing"

	"facade/api"
	"facade/bare"
	"facade/check"
	"facade/core"
	"facade/dev"
	"facade/load"
	"facade/mem"
	"facade/trap"
	"facade/walk"
)

// model is the discipline as the chapter says it, by its own books, beside a machine.
type model struct {
	i      api.Image
	b      *bare.Machine
	d      dev.Dev // what the machine's devices have to be
	regs   [16]bool
	words  map[int]struct{}
	tv     bool
	broken int
}

// modelOf is that of an image that can be checked.
func modelOf(t *testing.T, i api.Image, quota int) *model {
	t.Helper()
	b, err := load.Bare(i, quota)
	if err != nil {
		t.Fatal(err)
	}
	o := &model{i: i, b: b, words: map[int]struct{}{}}
	for _, k := range i.DataRefs {
		o.words[17*16+k] = struct{}{}
	}
	return o
}

// step does one step.
func (o *model) step() (bool, int) {
	if o.b.Over() || o.broken != 0 {
		return false, 0
	}
	c, m := o.b.CPU(), o.b.Mem()
	cause := trap.Waits(c, &o.d, o.b.Now(), false)
	if cause != 0 && c.TV == 0 {
		o.b.Step()
		return true, 0
	}
	if cause != 0 {
		if !o.tv {
			o.broken = check.NotCode
			return true, o.broken
		}
		c.PC = c.TV
	}
	if o.broken = o.asks(c, m); o.broken != 0 {
		return true, o.broken
	}
	if cause == api.CauseTimer {
		o.d.Rang()
	}
	o.does(c, m)
	o.b.Step()
	return true, 0
}

// asks is what the instruction at PC breaks.
func (o *model) asks(c api.CPU, m *mem.Mem) int {
	if c.PC < 2048 || !slices.Contains(o.i.Starts, int(c.PC-2048)) {
		return check.OutOfMap
	}
	_, s := core.Once(m.Clone(), 0, c, false)
	if s.Cause == api.CauseCall || s.Cause == api.CauseBad {
		return check.NoCall
	}
	if s.In.Op != 0 {
		if n := o.registers(s.In, c); n != 0 {
			return n
		}
	}
	if s.Cause == api.CausePage && !o.tv && c.TV != 0 {
		return check.NotCode
	}
	return 0
}

// registers is what it breaks by its registers, list by list as the chapter has them.
func (o *model) registers(in api.Instr, c api.CPU) int {
	a, b := o.regs[in.A], o.regs[in.B]
	is := func(l ...int) bool { return slices.Contains(l, in.Op) }
	if is(api.Ld, api.St) {
		if b {
			return check.Mixed
		}
		if addr := c.R[in.B] + uint32(in.C); addr >= 2048 && addr < 4096 {
			return check.CodeRead
		}
	}
	if is(api.Jr) && !a || is(api.Stv) && !a && c.R[in.A] != 0 {
		return check.NotCode
	}
	if is(api.Add, api.Sub, api.And, api.Or, api.Xor, api.Shl, api.Shr, api.Lt, api.Eq, api.Mul) && (b || o.regs[in.C]) {
		return check.Mixed
	}
	if is(api.Halt, api.Out) && a || is(api.Bwr) && (a || b) {
		return check.Told
	}
	if is(api.Brz, api.Brn, api.Jz, api.Jn, api.Tmr, api.Sst) && a || is(api.Spte) && (a || b) || is(api.Brd) && b {
		return check.Mixed
	}
	return 0
}

// does is what becomes of tags, and of the devices, by the instruction at PC.
func (o *model) does(c api.CPU, m *mem.Mem) {
	_, s := core.Once(m.Clone(), 0, c, false)
	in := s.In
	if s.Cause != 0 && s.Cause != api.CausePriv {
		return
	}
	place, _ := walk.Walk(m, 0, c.R[in.B]+uint32(in.C), in.Op == api.St, false)
	switch in.Op {
	case api.Mov:
		o.regs[in.A] = o.regs[in.B]
	case api.Ld:
		_, o.regs[in.A] = o.words[place]
	case api.St:
		delete(o.words, place)
		if o.regs[in.A] {
			o.words[place] = struct{}{}
		}
	case api.La, api.Li:
		o.regs[in.A] = slices.Contains(o.i.Places, int(c.PC)+1-2048)
	case api.Call:
		o.regs[15] = true
	case api.Stv:
		o.tv = o.regs[in.A]
	case api.Tmr:
		o.d.Set(o.b.Now(), c.R[in.A])
	case api.In:
		o.d.In()
		o.regs[in.A] = false
	case api.Brd, api.Gtm, api.Gcs, api.Gfa, api.Gst, api.Add, api.Sub, api.And, api.Or, api.Xor, api.Shl, api.Shr, api.Lt, api.Eq, api.Mul:
		o.regs[in.A] = false
	}
}

// holds holds a check against the model.
func (o *model) holds(t *testing.T, c *check.Check) {
	t.Helper()
	want := ofMachine(o.b)
	want.broken, want.tagged = o.broken, o.regs
	want.holds(t, "whatever", c)
}

// dice are numbers that look like any, the same ones each time.
type dice uint64

func (d *dice) below(n int) int {
	*d = *d*6364136223846793005 + 1442695040888963407
	return int(uint64(*d)>>33) % n
}

// number and place are registers that hold the one or the other, nearly always: 0 to 7, and 8 to 15.
func (d *dice) number() int {
	if d.below(60) == 0 {
		return d.below(16)
	}
	return d.below(8)
}

func (d *dice) place() int {
	if d.below(60) == 0 {
		return d.below(16)
	}
	return 8 + d.below(8)
}

// some is a word: an address of data, an entry, a frame or a page, an edge, any.
func (d *dice) some() uint32 {
	switch d.below(8) {
	case 0:
		return entry(17 + d.below(9))
	case 1:
		return uint32(d.below(6))
	case 2:
		return []uint32{0, 1, 2, 2047, 2048, 4095, 4096, 1 << 31, most}[d.below(9)]
	case 3:
		return readOnly(17 + d.below(9))
	}
	return uint32(d.below(48))
}

// moves is a line that moves a word, of either kind.
func (d *dice) moves() line {
	switch d.below(8) {
	case 0:
		return li(d.number(), d.some())
	case 1:
		return op(api.Mov, d.number(), d.number(), 0)
	case 2:
		return op(api.Mov, d.place(), d.place(), 0)
	case 3:
		return op(api.St, d.place(), 0, d.below(10))
	case 4:
		return op(api.Ld, d.place(), 0, d.below(10))
	case 5:
		return op(api.St, d.number(), d.number(), 10+d.below(10))
	}
	return op(api.Ld, d.number(), d.number(), 10+d.below(10))
}

// privileged is a line of the supervisor's.
func (d *dice) privileged() line {
	switch o := []int{api.Stv, api.Out, api.In, api.Bwr, api.Brd, api.Tmr, api.Gtm, api.Spte, api.Spte, api.Sync, api.Gcs, api.Gfa, api.Cli, api.Sti, api.Gst, api.Sst}[d.below(16)]; o {
	case api.Stv:
		return op(o, d.place(), 0, 0)
	case api.Sync, api.Cli, api.Sti:
		return op(o, 0, 0, 0)
	case api.Bwr, api.Brd, api.Spte:
		return op(o, d.number(), d.number(), 0)
	default:
		return op(o, d.number(), 0, 0)
	}
}

// line is a line of any kind, hardly ever one that breaks something whatever stands in registers.
func (d *dice) line() line {
	if d.below(100) == 0 {
		return []line{two(api.Hc, 0, 1), word(0), hidden(op(api.Nop, 0, 0, 0)), op(api.Halt, 1, 0, 0), la(d.number(), 2050), li(d.place(), 2050)}[d.below(6)]
	}
	switch d.below(10) {
	case 0, 1:
		return op([]int{api.Add, api.Sub, api.And, api.Or, api.Xor, api.Shl, api.Shr, api.Lt, api.Eq, api.Mul}[d.below(10)], 1+d.below(7), d.number(), d.number())
	case 2:
		return op([]int{api.Brz, api.Brn}[d.below(2)], d.number(), 0, 1) // to the line behind it
	case 3, 4, 5:
		return d.privileged()
	}
	return d.moves()
}

// image is a kernel of such lines, that goes around, with a handler of traps at its end. Lines that bring places bring
// those of lines.
func (d *dice) image() api.Image {
	lines := []line{li(0, 0), li(1, 5), li(2, 3)}
	for r := 8; r < 16; r++ {
		lines = append(lines, la(r, 0))
	}
	lines = append(lines, op(api.Stv, 8, 0, 0), op(api.Sti, 0, 0, 0))
	for range 40 {
		lines = append(lines, d.line())
		if d.below(5) == 0 {
			lines = append(lines, la(d.place(), 0))
		}
	}
	lines = append(lines, two(api.Jmp, 0, base))
	handler := image(0, lines...)
	lines = append(lines, op(api.In, 3, 0, 0), op(api.Gcs, 4, 0, 0), d.line(), d.line(), op(api.Brz, 4, 0, 1), la(9, 0))
	if d.below(3) == 0 {
		lines = append(lines, op(api.Rti, 0, 0, 0))
	} else {
		lines = append(lines, op(api.Sti, 0, 0, 0), op(api.Jr, 9, 0, 0)) // not to where it may trap again
	}
	return d.filled(image(32, lines...), len(handler.Code))
}

// filled is an image whose places are those of lines, the first one that of a word of code; its first words of data are
// places, too.
func (d *dice) filled(i api.Image, first int) api.Image {
	start := func() uint32 { return uint32(base + i.Starts[d.below(len(i.Starts))]) }
	for _, p := range i.Places {
		i.Code[p] = start()
	}
	i.Code[i.Places[0]] = uint32(base + first)
	for k := range i.Data {
		i.Data[k] = d.some()
		if k < 10 {
			i.Data[k], i.DataRefs = start(), append(i.DataRefs, k)
		}
	}
	return i
}

// P15.1, P15.2: whatever a kernel does, keys between: all that is told is as the chapter's words have it.
func TestP15_1Whatever(t *testing.T) {
	d := dice(15)
	ends := map[int]int{}
	traps := map[uint32]int{}
	steps := 0
	for range 600 {
		i := d.image()
		c, o := made(t, i), modelOf(t, i, quota)
		for k := range 250 {
			if d.below(12) == 0 {
				key := d.some()
				if is := c.Press(key); is != o.b.Press(key) || is != o.d.Press(key) {
					t.Fatalf("Press is %v", is)
				}
			}
			is, broken := c.Step()
			if wantIs, want := o.step(); is != wantIs || broken != want {
				t.Fatalf("step %d: %v, %d, want %v, %d", k, is, broken, wantIs, want)
			}
			o.holds(t, c)
			if t.Failed() {
				return
			}
			traps[o.b.CPU().Cause]++
			if !is {
				break
			}
			steps++
		}
		ends[o.broken]++
	}
	for n := range check.NoCall + 1 {
		if ends[n] == 0 {
			t.Errorf("none ended with %d: %v", n, ends)
		}
	}
	if traps[api.CauseTimer] == 0 || traps[api.CauseKey] == 0 || traps[api.CausePage] == 0 || steps < 20000 {
		t.Errorf("it says too little: %d steps, causes %v", steps, traps)
	}
	t.Log(steps, ends, traps)
}
