package check_test

import (
	"math"
	"slices"
	"testing"

	"facade/api"
	"facade/check"
)

// P15.1 Step: false, and 0, and nothing, when it is over: by a halt, by a fault, by an interrupt.
func TestP15_1Over(t *testing.T) {
	c := coded(t, op(api.Halt, 1, 0, 0), op(api.Nop, 0, 0, 0))
	over(t, "halt", c, api.Seen{Kind: api.SeenHalt, N: quota})
	press(t, c, 7)
	stands(t, "a key behind a halt", c)
	c = coded(t, op(api.Ld, 1, 3, 255), op(api.Nop, 0, 0, 0))
	over(t, "a fault", c, api.Seen{Kind: api.SeenFault, A: api.CausePage})
	c = coded(t, op(api.Sti, 0, 0, 0), op(api.Halt, 1, 0, 0))
	run(t, c, 1)
	press(t, c, 7)
	over(t, "an interrupt", c, api.Seen{Kind: api.SeenFault, A: api.CauseKey})
	if c.Broken() != 0 {
		t.Errorf("broken: %d", c.Broken())
	}
}

// P15.1 Step: false, and 0, and nothing, when something was broken, whatever is pressed behind it.
func TestP15_1Broken(t *testing.T) {
	for _, x := range []struct {
		l    line
		want int
	}{
		{hidden(op(api.Nop, 0, 0, 0)), check.OutOfMap}, {li(9, 5), 0}, {op(api.Ld, 1, 7, 0), check.CodeRead}, {op(api.Add, 1, 8, 1), check.Mixed}, {op(api.Jr, 9, 0, 0), check.NotCode},
		{op(api.Out, 8, 0, 0), check.Told}, {two(api.Hc, 0, 1), check.NoCall}, {word(0), check.NoCall},
	} {
		c := coded(t, taking(t, 1, []line{op(api.Nop, 0, 0, 0)}, li(7, base), op(api.Cli, 0, 0, 0), x.l)...)
		run(t, c, ready+2)
		if c.Broken() != 0 {
			t.Errorf("%d: %d was broken ahead of it", x.want, c.Broken())
		}
		if x.want == 0 {
			run(t, c, 1)
			continue
		}
		breaks(t, "it", c, x.want)
		press(t, c, 7, 8)
		if len(c.Machine().Seen()) != 0 || c.Broken() != x.want {
			t.Errorf("seen %v, broken %d", c.Machine().Seen(), c.Broken())
		}
		stands(t, "keys behind it", c)
	}
}

// P15.2 Broken: the numbers are the chapter's, and no two are alike.
func TestP15_2Numbers(t *testing.T) {
	for k, n := range []int{check.OutOfMap, check.CodeRead, check.Mixed, check.NotCode, check.Told, check.NoCall} {
		if n != k+1 {
			t.Errorf("number %d is %d", k+1, n)
		}
	}
}

// P15.2 Tagged: registers 0 to 15, and no others.
func TestP15_2Tagged(t *testing.T) {
	for reg := range 16 {
		c := coded(t, la(reg, 2050), op(api.Nop, 0, 0, 0))
		for step := range 2 {
			for k := -40; k < 60; k++ {
				if got := c.Tagged(k); got != (step == 1 && k == reg) {
					t.Errorf("behind %d steps, register %d is tagged: %v", step, k, got)
				}
			}
			for _, k := range []int{math.MinInt, math.MinInt + reg, -1 << 32, -1<<32 + reg, 1<<32 + reg, 1<<16 + reg, math.MaxInt} {
				if c.Tagged(k) {
					t.Errorf("register %d is tagged", k)
				}
			}
			run(t, c, 1)
		}
	}
}

// P15.2 Machine: a copy: what is done to it changes nothing of the check, nor the other way.
func TestP15_2Machine(t *testing.T) {
	lines := join(place(), stored(3, 3), mapped(5, entry(20)), put(6, entry(21)), []line{op(api.Out, 1, 0, 0), op(api.In, 4, 0, 0), op(api.Sync, 0, 0, 0), op(api.Out, 2, 0, 0), op(api.Halt, 1, 0, 0)})
	c := coded(t, lines...)
	press(t, c, 70, 71)
	for k := range lines {
		want, b := of(c), c.Machine()
		b.Press(99)
		for b.Step() {
		}
		m := b.Mem()
		m.Fill(17, 1, 2, 3)
		want.holds(t, "a copy went on", c)
		again := c.Machine()
		was := ofMachine(again)
		run(t, c, 1)
		press(t, c, uint32(k))
		if now := ofMachine(again); now.c != was.c || now.now != was.now || now.keys != was.keys || now.waiting != was.waiting || !slices.Equal(now.seen, was.seen) {
			t.Errorf("step %d is seen in a copy: %+v", k, now)
		}
	}
	if !c.Machine().Over() || len(c.Machine().Seen()) != 3 {
		t.Errorf("over %v, seen %v", c.Machine().Over(), c.Machine().Seen())
	}
}

// P15.2 Press: as the machine's: MaxKeys find room, another one does not, and is nothing; also when it is over, or broken.
func TestP15_2Press(t *testing.T) {
	for _, last := range []line{op(api.Halt, 1, 0, 0), two(api.Hc, 0, 1)} {
		c := coded(t, op(api.In, 4, 0, 0), op(api.Out, 4, 0, 0), last)
		for k := range uint32(64) {
			press(t, c, 100+k)
		}
		if c.Press(999) {
			t.Error("room for more than MaxKeys")
		}
		run(t, c, 2)
		press(t, c, 300)
		if c.Press(999) {
			t.Error("room for more than MaxKeys again")
		}
		c.Step()
		if c.Press(999) || !slices.Equal(c.Machine().Seen()[:1], []api.Seen{{Kind: api.SeenOut, N: 100}}) {
			t.Errorf("seen %v", c.Machine().Seen())
		}
	}
	c := coded(t, two(api.Hc, 0, 1))
	breaks(t, "hc", c, check.NoCall)
	press(t, c, 7)
	b := c.Machine()
	for k := range 63 {
		if !b.Press(uint32(k)) {
			t.Errorf("key %d finds no room", k)
		}
	}
	if b.Press(5) {
		t.Error("the key that was pressed at a broken one doesn't wait")
	}
}

// spare is a list with room behind it, that is not 0.
func spare[T int | uint32](l []T) []T {
	l = append(slices.Clone(l), 7, 7, 7, 7, 7, 7, 7, 7)
	return l[: len(l)-8 : len(l)]
}

// behind tells whether what spare has put behind a list is there.
func behind[T int | uint32](l []T) bool {
	return slices.Equal(l[len(l):len(l)+8], []T{7, 7, 7, 7, 7, 7, 7, 7})
}

// P0.4: nothing that comes in is changed, or kept, and what lies behind it is neither read nor written.
func TestP0_4Image(t *testing.T) {
	lines := join(place(), stored(3, 3), loaded(4, 7), []line{la(5, 2050), op(api.St, 5, 4, 0), op(api.Nop, 0, 0, 0)})
	i := image(20, lines...)
	i.Data[7], i.DataRefs = 9, []int{8}
	i.Data, i.Code, i.DataRefs, i.Places, i.Starts = spare(i.Data), spare(i.Code), spare(i.DataRefs), spare(i.Places), spare(i.Starts)
	data, code, refs, places, starts := slices.Clone(i.Data), slices.Clone(i.Code), slices.Clone(i.DataRefs), slices.Clone(i.Places), slices.Clone(i.Starts)
	c, other := made(t, i), made(t, i)
	run(t, c, len(lines))
	if !slices.Equal(i.Data, data) || !slices.Equal(i.Code, code) || !slices.Equal(i.DataRefs, refs) || !slices.Equal(i.Places, places) || !slices.Equal(i.Starts, starts) {
		t.Error("the image was changed")
	}
	if !behind(i.Data) || !behind(i.Code) || !behind(i.DataRefs) || !behind(i.Places) || !behind(i.Starts) {
		t.Error("what lies behind the image's lists was changed")
	}
	clear(i.Data)
	clear(i.Code)
	clear(i.DataRefs)
	clear(i.Places)
	clear(i.Starts)
	run(t, other, len(lines))
	of(c).holds(t, "the image was changed behind New", other)
	breaks(t, "behind it", other, check.OutOfMap)
}

// P0.4: two checks of one image are each its own.
func TestP0_4Two(t *testing.T) {
	i := image(20, join(place(), stored(3, 3), loaded(4, 3), []line{op(api.Sti, 0, 0, 0), around()})...)
	a, b := made(t, i), made(t, i)
	want := of(b)
	run(t, a, 7)
	press(t, a, 5)
	want.holds(t, "another one went on", b)
	run(t, b, 7)
	goes(t, "no key of its own", b, tags(3, 4))
	over(t, "a key of its own", a, api.Seen{Kind: api.SeenFault, A: api.CauseKey})
}
