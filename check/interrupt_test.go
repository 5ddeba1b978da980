package check_test

import (
	"slices"
	"testing"

	"facade/api"
	"facade/check"
)

const taker = base + 40 // where these kernels take their traps

// taking is code that has its traps go to taker, where these lines stand, brings a number into register 9, and then is
// ready to be interrupted, and does the others.
func taking(t *testing.T, n uint32, there []line, lines ...line) []line {
	t.Helper()
	head := []line{la(8, taker), op(api.Stv, 8, 0, 0), li(9, n), op(api.Sti, 0, 0, 0)}
	return join(at(t, taker, join(head, lines)...), there)
}

// ready is how many steps of taking there are ahead of the lines.
const ready = 4

// around is a line that goes around.
func around() line { return op(api.Br, 0, 0, 0) }

// never is what stands where no step has to come: it would break something by itself.
func never() line { return two(api.Hc, 0, 0) }

// ring is a timer that is set to the number of register 9.
func ring() line { return op(api.Tmr, 9, 0, 0) }

// kind is how an interrupt comes: a line is done, then keys are pressed; its cause.
type kind struct {
	what  string
	ahead line
	keys  []uint32
	cause uint32
}

// kinds are all of them.
func kinds() []kind {
	return []kind{
		{"a key", op(api.Nop, 0, 0, 0), []uint32{77}, api.CauseKey},
		{"many keys", op(api.Nop, 0, 0, 0), []uint32{77, 78, 0, 0, 77}, api.CauseKey},
		{"the timer", ring(), nil, api.CauseTimer},
		{"the timer and a key", ring(), []uint32{77}, api.CauseTimer},
	}
}

// interrupts is a check that is interrupted by its next step, ahead of these lines, and takes that by those there.
func (k kind) interrupts(t *testing.T, there []line, lines ...line) *check.Check {
	t.Helper()
	c := coded(t, taking(t, 1, there, append([]line{k.ahead}, lines...)...)...)
	run(t, c, ready+1)
	press(t, c, k.keys...)
	return c
}

// P15.1: an interrupt that a place of code takes: the step is the machine's, by the instruction at TV.
func TestP15_1Interrupt(t *testing.T) {
	for _, x := range kinds() {
		c := x.interrupts(t, []line{op(api.Gcs, 1, 0, 0), op(api.Nop, 0, 0, 0)}, never())
		run(t, c, 1)
		if cpu := c.Machine().CPU(); cpu.R[1] != x.cause || cpu.PC != taker+1 || cpu.IE {
			t.Errorf("%s: the cause is %d, PC %d, IE %v", x.what, cpu.R[1], cpu.PC, cpu.IE)
		}
		run(t, c, 1) // not interrupted again
	}
}

// P15.1: what is asked then is asked at TV, and breaks nothing else: the interrupt isn't taken either.
func TestP15_1InterruptAsks(t *testing.T) {
	for _, x := range kinds() {
		for _, y := range []struct {
			there line
			want  int
		}{
			{hidden(op(api.Nop, 0, 0, 0)), check.OutOfMap}, {hidden(two(api.Hc, 0, 5)), check.OutOfMap}, {two(api.Hc, 0, 5), check.NoCall}, {word(0), check.NoCall},
			{op(api.Add, 1, 8, 9), check.Mixed}, {op(api.Ld, 1, 8, 0), check.Mixed}, {op(api.Out, 8, 0, 0), check.Told}, {op(api.Jr, 9, 0, 0), check.NotCode}, {op(api.Stv, 9, 0, 0), check.NotCode},
		} {
			c := x.interrupts(t, []line{y.there}, op(api.Nop, 0, 0, 0))
			breaks(t, x.what, c, y.want)
			if cpu := c.Machine().CPU(); cpu.Cause != 0 || !cpu.IE || cpu.PC == taker {
				t.Errorf("%s, %d: it was taken", x.what, y.want)
			}
		}
		c := x.interrupts(t, []line{op(api.Ld, 1, 9, 254), op(api.Nop, 0, 0, 0)}, op(api.Nop, 0, 0, 0))
		run(t, c, 1)
		if cpu := c.Machine().CPU(); cpu.Cause != api.CausePage || cpu.PC != taker || cpu.EPC != taker {
			t.Errorf("%s, and a fault behind it: %+v", x.what, cpu)
		}
	}
}

// P15.1: what stands at PC isn't asked, where an interrupt comes ahead of it; behind the way back it is.
func TestP15_1InterruptInstead(t *testing.T) {
	for _, x := range kinds() {
		for _, y := range []struct {
			at   line
			want int
		}{
			{hidden(op(api.Nop, 0, 0, 0)), check.OutOfMap}, {two(api.Hc, 0, 5), check.NoCall}, {word(0), check.NoCall},
			{op(api.Out, 8, 0, 0), check.Told}, {op(api.Add, 1, 8, 8), check.Mixed}, {op(api.Jr, 9, 0, 0), check.NotCode},
		} {
			c := x.interrupts(t, []line{op(api.Cli, 0, 0, 0), op(api.Rti, 0, 0, 0)}, y.at)
			run(t, c, 2)
			if len(x.keys) == 0 { // else a key comes again
				breaks(t, "behind the way back", c, y.want)
			}
		}
	}
}

// P15.1: an interrupt while TV is 0, as a number, or as a place: it is the machine's end, and no instruction is asked
// for, or done.
func TestP15_1InterruptLost(t *testing.T) {
	set := [][]line{{li(8, 0), op(api.Stv, 8, 0, 0)}, {la(8, 0), op(api.Stv, 8, 0, 0)}, {la(8, 2050), op(api.Stv, 8, 0, 0), li(8, 0), op(api.Stv, 8, 0, 0)}, {op(api.Nop, 0, 0, 0)}}
	for _, first := range set {
		for _, next := range []line{op(api.Nop, 0, 0, 0), hidden(op(api.Nop, 0, 0, 0)), two(api.Hc, 0, 5), word(0), la(4, 2050), op(api.Mov, 8, 9, 0), op(api.Out, 8, 0, 0), op(api.Jr, 9, 0, 0)} {
			lines := join(first, []line{op(api.Sti, 0, 0, 0), op(api.Nop, 0, 0, 0), next})
			c := coded(t, lines...)
			run(t, c, len(first)+2)
			press(t, c, 77)
			over(t, "a key", c, api.Seen{Kind: api.SeenFault, A: api.CauseKey})

			lines = join(first, []line{op(api.Sti, 0, 0, 0), op(api.Tmr, 1, 0, 0)})
			for range quota - 1 { // it is register 1
				lines = append(lines, op(api.Nop, 0, 0, 0))
			}
			c = coded(t, append(lines, next)...)
			run(t, c, len(first)+2+quota-1)
			over(t, "the timer", c, api.Seen{Kind: api.SeenFault, A: api.CauseTimer})
		}
	}
}

// until is how many steps it is till one breaks something, which has to be that.
func until(t *testing.T, c *check.Check, want int) int {
	t.Helper()
	for k := range 5000 {
		if is, broken := c.Step(); broken != 0 || !is {
			if broken != want {
				t.Errorf("step %d breaks %d, want %d", k, broken, want)
			}
			return k
		}
	}
	t.Error("it goes around")
	return 0
}

// P15.1: the timer comes just when it is due: at the time that it was set at, and so many more.
func TestP15_1Timer(t *testing.T) {
	for _, n := range []uint32{1, 2, 3, 4, 10, 100, 1000} {
		c := coded(t, taking(t, n, []line{never()}, ring(), around())...)
		if got := until(t, c, check.NoCall); got != ready+int(n) {
			t.Errorf("set to %d: it comes at %d, want %d", n, got, ready+int(n))
		}
		c = coded(t, taking(t, n, []line{never()}, ring(), op(api.Nop, 0, 0, 0), ring(), around())...) // set anew, if it comes so far
		want := ready + 2 + int(n)
		if n <= 2 {
			want = ready + int(n)
		}
		if got := until(t, c, check.NoCall); got != want {
			t.Errorf("set to %d, and anew: it comes at %d, want %d", n, got, want)
		}
	}
}

// P15.1: a timer that is set to 0 does not come; nor does one that would come too late.
func TestP15_1NoTimer(t *testing.T) {
	c := coded(t, taking(t, 0, []line{never()}, ring(), around())...)
	run(t, c, 500)
	c = coded(t, taking(t, 5, []line{never()}, ring(), op(api.Tmr, 0, 0, 0), around())...) // register 0 is 0
	run(t, c, 500)
	for _, n := range []uint32{1 << 31, most} {
		c = coded(t, taking(t, n, []line{never()}, ring(), around())...)
		run(t, c, 500)
	}
}

// P15.1: a timer that came is gone: it comes once, be it waited for or not.
func TestP15_1TimerOnce(t *testing.T) {
	c := coded(t, taking(t, 5, []line{op(api.Add, 3, 3, 3), op(api.Rti, 0, 0, 0)}, ring(), around())...)
	run(t, c, ready+5)
	if got := c.Machine().CPU().Cause; got != 0 {
		t.Errorf("ahead of its time: %d", got)
	}
	run(t, c, 300)
	if got := c.Machine().CPU(); got.Cause != api.CauseTimer || got.PC != base+7 || !got.IE {
		t.Errorf("behind its time: %+v", got)
	}
	late := taking(t, 3, []line{op(api.Rti, 0, 0, 0)}, op(api.Cli, 0, 0, 0), ring(), op(api.Nop, 0, 0, 0), op(api.Nop, 0, 0, 0), op(api.Nop, 0, 0, 0), op(api.Nop, 0, 0, 0), op(api.Nop, 0, 0, 0), op(api.Sti, 0, 0, 0), around())
	c = coded(t, late...)
	run(t, c, ready+7)
	if got := c.Machine().CPU().Cause; got != 0 {
		t.Errorf("it comes where none may: %d", got)
	}
	run(t, c, 300)
	if got := c.Machine().CPU(); got.Cause != api.CauseTimer || !got.IE {
		t.Errorf("it does not come where one may again: %+v", got)
	}
}

// P15.1: a timer that is due where nothing may interrupt waits till something may again, and is an interrupt then.
func TestP15_1TimerWaits(t *testing.T) {
	for _, n := range []uint32{1, 3, 8} {
		lines := []line{op(api.Cli, 0, 0, 0), ring()}
		for range 9 {
			lines = append(lines, op(api.Nop, 0, 0, 0))
		}
		c := coded(t, taking(t, n, []line{never()}, append(lines, op(api.Sti, 0, 0, 0), op(api.Nop, 0, 0, 0))...)...)
		run(t, c, ready+len(lines)+1)
		breaks(t, "it may be interrupted again", c, check.NoCall)
	}
}

// P15.1: a timer that is not due yet, when a key comes, is an interrupt of its own when it is.
func TestP15_1TimerBehindKey(t *testing.T) {
	there := []line{op(api.Out, 3, 0, 0), op(api.In, 4, 0, 0), la(3, 2050), op(api.Rti, 0, 0, 0)} // it tells a place, when it is done again
	c := coded(t, taking(t, 20, there, ring(), around())...)
	run(t, c, ready+3)
	press(t, c, 77)
	run(t, c, 17)
	if got := c.Machine().CPU(); got.Cause != api.CauseKey || !got.IE || got.R[4] != 77 {
		t.Errorf("the key: %+v", got)
	}
	breaks(t, "the timer", c, check.Told)
}

// P15.1: a timer that is set anew where it is taken comes again, each time.
func TestP15_1TimerAgain(t *testing.T) {
	c := coded(t, taking(t, 7, []line{ring(), op(api.Out, 9, 0, 0), op(api.Rti, 0, 0, 0)}, ring(), around())...)
	run(t, c, ready+700+2) // the last one puts out in the second step
	if got := len(c.Machine().Seen()); got != 100 {
		t.Errorf("it came %d times, want 100", got)
	}
}

// P15.1: a key comes as long as it waits: till In has taken all of them, each once.
func TestP15_1Keys(t *testing.T) {
	there := []line{op(api.In, 3, 0, 0), op(api.Out, 3, 0, 0), op(api.Rti, 0, 0, 0)}
	for _, n := range []int{1, 2, 3, 63, 64} {
		c := coded(t, taking(t, 0, there, around())...)
		run(t, c, ready)
		for k := range n {
			press(t, c, uint32(100+k))
		}
		if n == 64 && (c.Press(999) || c.Press(998)) {
			t.Error("room for more than MaxKeys")
		}
		run(t, c, 3*n+50)
		want := make([]api.Seen, n)
		for k := range want {
			want[k] = api.Seen{Kind: api.SeenOut, N: uint32(100 + k)}
		}
		if got := c.Machine().Seen(); !slices.Equal(got, want) {
			t.Errorf("%d keys: seen %v", n, got)
		}
		press(t, c, 7)
		run(t, c, 50)
		if got := len(c.Machine().Seen()); got != n+1 {
			t.Errorf("%d keys, and one more: %d were seen", n, got)
		}
	}
}

// P15.1: In of none takes none that comes later.
func TestP15_1NoKeys(t *testing.T) {
	c := coded(t, taking(t, 0, []line{op(api.Gcs, 3, 0, 0), op(api.Nop, 0, 0, 0)}, op(api.In, 4, 0, 0), op(api.In, 4, 0, 0), op(api.In, 4, 0, 0), around())...)
	run(t, c, ready+3)
	press(t, c, 7)
	run(t, c, 1)
	if got := c.Machine().CPU(); got.R[3] != api.CauseKey || got.R[4] != 0 {
		t.Errorf("%+v", got)
	}
}

// P15.1: nothing interrupts where IE is off: at first, behind Cli, behind Sst of an even number, where a trap is taken.
func TestP15_1NotInterrupted(t *testing.T) {
	for _, off := range [][]line{{op(api.Cli, 0, 0, 0)}, {op(api.Sst, 0, 0, 0)}, {op(api.Sst, 9, 0, 0)}} {
		c := coded(t, taking(t, 6, []line{never()}, join(off, []line{ring(), around()})...)...)
		run(t, c, ready+1)
		press(t, c, 7)
		run(t, c, 100)
	}
	c := coded(t, la(8, taker), op(api.Stv, 8, 0, 0), around())
	press(t, c, 7)
	run(t, c, 100)
	for _, on := range []line{op(api.Sti, 0, 0, 0), op(api.Sst, 9, 0, 0)} {
		c = coded(t, taking(t, 7, []line{never()}, op(api.Cli, 0, 0, 0), op(api.Nop, 0, 0, 0), on, op(api.Nop, 0, 0, 0))...)
		run(t, c, ready+1)
		press(t, c, 7)
		run(t, c, 2)
		breaks(t, "it may be interrupted again", c, check.NoCall)
	}
}

// P15.1: an instruction at TV makes tags as any other does.
func TestP15_1InterruptTags(t *testing.T) {
	for _, x := range kinds() {
		c := x.interrupts(t, []line{op(api.Mov, 4, 8, 0), op(api.Nop, 0, 0, 0)}, op(api.Mov, 5, 8, 0))
		goes(t, x.what, c, tags(8, 4))
		c = x.interrupts(t, []line{la(4, 5), op(api.Nop, 0, 0, 0)}, li(8, 5), op(api.Nop, 0, 0, 0))
		goes(t, x.what, c, tags(8, 4))
		c = x.interrupts(t, []line{li(8, 5), op(api.Nop, 0, 0, 0)}, la(4, 5), op(api.Nop, 0, 0, 0))
		goes(t, x.what, c, tags())
	}
}

// Machine: what is pressed at a copy doesn't interrupt the check's own, nor the other way.
func TestP15_2PressedCopy(t *testing.T) {
	c := coded(t, taking(t, 0, []line{never()}, around())...)
	run(t, c, ready)
	b := c.Machine()
	b.Press(7)
	run(t, c, 20)
	b.Step()
	if got := b.CPU().Cause; got != api.CauseBad {
		t.Errorf("the copy's cause is %d", got)
	}
	other := c.Machine()
	press(t, c, 8)
	other.Step()
	if got := other.CPU().Cause; got != 0 {
		t.Errorf("another copy's cause is %d", got)
	}
	breaks(t, "a key of its own", c, check.NoCall)
}
