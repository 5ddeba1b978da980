package bare_test

import (
	"testing"

	"facade/api"
	"facade/bare"
	"facade/core"
	"facade/mem"
	"facade/walk"
)

// model is a bare machine as the chapter says it, by its own books.
type model struct {
	state
	quota   int
	keys    []uint32
	sectors [16]uint32
	rings   int64 // 0: never
	updates []asked
}

// step does one step.
func (o *model) step() {
	switch {
	case o.c.IE && o.rings != 0 && o.now >= o.rings:
		o.rings = 0
		o.trap(api.CauseTimer, 0)
	case o.c.IE && len(o.keys) > 0:
		o.trap(api.CauseKey, 0)
	}
	if !o.over {
		o.instruct()
	}
	o.now++
	o.waiting = len(o.updates)
}

func (o *model) instruct() {
	c, stop := core.Once(o.m, 0, o.c, false)
	switch stop.Cause {
	case 0:
		o.c = c
	case api.CausePage:
		o.trap(api.CausePage, stop.Addr)
	case api.CauseBad, api.CauseCall:
		o.trap(api.CauseBad, 0)
	case api.CausePriv:
		o.privileged(stop.In)
	}
}

// privileged does an operation: of those that ask or tell nothing but the processor, as operations has it.
func (o *model) privileged(in api.Instr) {
	a, b := &o.c.R[in.A], o.c.R[in.B]
	switch in.Op {
	case api.In:
		*a = 0
		if len(o.keys) > 0 {
			*a, o.keys = o.keys[0], o.keys[1:]
		}
	case api.Bwr:
		o.sectors[*a%16] = b
		o.show(api.SeenWrite, *a%16, b)
	case api.Brd:
		*a = o.sectors[b%16]
	case api.Tmr:
		o.rings = 0
		if *a != 0 {
			o.rings = o.now + int64(*a)
		}
	case api.Gtm:
		*a = uint32(o.now)
	case api.Spte:
		o.ask(*a, b)
	case api.Sync:
		o.do()
	default:
		for _, x := range operations() {
			if x.op == in.Op {
				x.changes(&o.state, in.A, in.B)
			}
		}
		return
	}
	o.c.PC++
}

func (o *model) ask(page, x uint32) {
	e, is := walk.Of(x)
	if page > 127 || !is || e.There && (e.Frame < 17 || e.Frame >= o.quota) {
		return
	}
	if len(o.updates) == 16 {
		o.do()
	}
	o.updates = append(o.updates, asked{page, x})
}

func (o *model) do() {
	for _, u := range o.updates {
		first, _ := o.m.Read(int(u.page / 16))
		if e, is := walk.Of(first); is && e.There {
			o.m.Write(e.Frame*16+int(u.page%16), u.word)
		}
	}
	o.updates = nil
}

// dice are numbers that look like any, the same ones each time.
type dice uint64

func (d *dice) below(n int) int {
	*d = *d*6364136223846793005 + 1442695040888963407
	return int(uint64(*d)>>33) % n
}

// some is a word: of those that are worth it here, or any.
func (d *dice) some() uint32 {
	switch d.below(8) {
	case 0:
		return uint32(d.below(1 << 16))
	case 1:
		return uint32(d.below(1<<16))<<16 | uint32(d.below(1<<16))
	case 2:
		return uint32(start + d.below(256))
	case 3:
		return uint32(d.below(140))
	case 4:
		return edgeWords()[d.below(len(edgeWords()))]
	case 5:
		return 0
	}
	return uint32(d.below(26)<<8 | d.below(8))
}

// instruction is an instruction's word, or one of those nearly so.
func (d *dice) instruction() uint32 {
	if d.below(2) == 0 {
		l := operations()
		return l[1+d.below(len(l)-1)].word(d.below(16), d.below(16)) // no Halt: it would end nearly all of them
	}
	op := []int{api.Nop, api.Mov, api.Add, api.Lt, api.Eq, api.Ld, api.St, api.Li, api.La, api.Br, api.Brz, api.Jr, api.Hc, api.Spte, api.Sync, api.Rti}[d.below(16)]
	switch op {
	case api.Nop, api.Sync, api.Rti, api.Hc:
		return w(op, 0, 0, 0)
	case api.Br, api.Brz:
		return w(op, 0, 0, d.below(256))
	case api.Li, api.La, api.Jr:
		return w(op, d.below(16), 0, 0)
	case api.Mov, api.Spte:
		return w(op, d.below(16), d.below(16), 0)
	}
	return w(op, d.below(16), d.below(16), d.below(16))
}

// made is a machine of code and words as they fall, and its model.
func (d *dice) made(t *testing.T) (*bare.Machine, *model) {
	t.Helper()
	m := kernel(t)
	for k := range 256 {
		x := d.instruction()
		if d.below(6) == 0 {
			x = d.some()
		}
		code(t, m, start+k, x)
	}
	if d.below(2) == 0 { // tables as they fall, too
		for range 4 {
			word(t, m, d.below(6)*16+d.below(16), d.some())
		}
	}
	c := unlike(uint32(start+d.below(256)), d.below(2) == 0, d.below(2) == 0)
	c.EPC = uint32(start + d.below(256))
	for k := range c.R {
		c.R[k] = d.some()
	}
	q := api.Tables + d.below(10)
	return machineOf(t, m, c, q), &model{state: state{c: c, m: m.Clone()}, quota: q}
}

// P8.2: whatever stands in memory, many steps, keys between: all that is told is as the chapter's words have it.
func TestP8_2Whatever(t *testing.T) {
	d := dice(8)
	for range 400 {
		b, o := d.made(t)
		for range 300 {
			if d.below(20) == 0 {
				key := d.some()
				if is := len(o.keys) < 64; b.Press(key) != is {
					t.Fatalf("Press is %v", !is)
				} else if is {
					o.keys = append(o.keys, key)
				}
			}
			if b.Step() == o.over {
				t.Fatalf("over %v, Step is the same", o.over)
			}
			if !o.over {
				o.step()
			}
			o.check(t, "whatever", b)
			if d.below(10) == 0 {
				b = b.Clone()
			}
			if t.Failed() {
				return
			}
		}
	}
}

// P8.2: it ends, and panics nowhere, where nothing is as it should be: any words in all of memory, of any size.
func TestP8_2Anything(t *testing.T) {
	d := dice(9)
	for range 300 {
		m, err := mem.New(1 + d.below(40))
		if err != nil {
			t.Fatal(err)
		}
		for k := range m.Frames() * 16 {
			word(t, m, k, []uint32{d.some(), d.instruction(), entry(d.below(40), uint32(2*d.below(4)))}[d.below(3)])
		}
		c := unlike(d.some(), true, true)
		c.TV = d.some()
		b := machineOf(t, m, c, api.Tables+d.below(240))
		for b.Now() < 100 && b.Step() {
			b.Next()
			if b.Waiting() > api.MaxQueue {
				t.Fatalf("%d wait", b.Waiting())
			}
		}
	}
}
