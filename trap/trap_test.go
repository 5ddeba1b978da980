package trap_test

import (
	"math"
	"slices"
	"testing"

	"facade/api"
	"facade/dev"
	"facade/trap"
)

const (
	most = math.MaxUint32
	high = 1 << 31
)

// causes are all that the document has.
func causes() []int {
	return []int{api.CausePage, api.CauseTimer, api.CauseKey, api.CauseBad, api.CausePort, api.CausePriv, api.CauseCall}
}

// edgeWords are words at which a call could go wrong.
func edgeWords() []uint32 {
	return []uint32{0, 1, 2, 15, 16, 17, 255, 256, 2047, 2048, 4095, 4096, 1<<16 - 1, 1 << 16, high - 1, high, high + 1, most - 1, most}
}

// unlike is a processor of which no two words are alike, and none is 0; each bool is as asked.
func unlike(ie, eie bool) api.CPU {
	c := api.CPU{PC: 2050, IE: ie, EIE: eie, EPC: 3001, TV: 2100, Cause: 991, Addr: 992}
	for k := range c.R {
		c.R[k] = 0x9e3779b9*uint32(k+1) | 1
	}
	return c
}

// processors are some of which each differs from the others in what may be interrupted, or in a word at its edge.
func processors() []api.CPU {
	var l []api.CPU
	for _, b := range [][2]bool{{false, false}, {false, true}, {true, false}, {true, true}} {
		c := unlike(b[0], b[1])
		l = append(l, c, api.CPU{IE: b[0], EIE: b[1]})
		for _, w := range edgeWords() {
			for _, at := range []func(*api.CPU) *uint32{pc, epc, tv, cause, addr} {
				e := c
				*at(&e) = w
				l = append(l, e)
			}
		}
	}
	return l
}

func pc(c *api.CPU) *uint32    { return &c.PC }
func epc(c *api.CPU) *uint32   { return &c.EPC }
func tv(c *api.CPU) *uint32    { return &c.TV }
func cause(c *api.CPU) *uint32 { return &c.Cause }
func addr(c *api.CPU) *uint32  { return &c.Addr }

// withTV is a processor that takes its traps there.
func withTV(c api.CPU, at uint32) api.CPU {
	c.TV = at
	return c
}

// entered is what the chapter says of a trap that is taken, each field by itself.
func entered(c api.CPU, cause, addr uint32) api.CPU {
	return api.CPU{R: c.R, PC: c.TV, IE: false, EIE: c.IE, EPC: c.PC, TV: c.TV, Cause: cause, Addr: addr}
}

// returned is what the chapter says of the way back, each field by itself.
func returned(c api.CPU) api.CPU {
	return api.CPU{R: c.R, PC: c.EPC, IE: c.EIE, EIE: false, EPC: 0, TV: c.TV, Cause: c.Cause, Addr: c.Addr}
}

// enter takes a trap that has to be taken.
func enter(t *testing.T, c api.CPU, cause int, addr uint32) api.CPU {
	t.Helper()
	got, is := trap.Enter(c, cause, addr)
	if !is {
		t.Fatalf("Enter(%+v, %d, %d): it is not taken", c, cause, addr)
	}
	return got
}

// check holds a processor against what it has to be.
func check(t *testing.T, what string, got, want api.CPU) {
	t.Helper()
	if got != want {
		t.Errorf("%s: %+v, want %+v", what, got, want)
	}
}

// P6.1 Enter: one trap, written out.
func TestEnterOne(t *testing.T) {
	c := api.CPU{R: api.Regs16{1: 11, 15: 25}, PC: 2050, IE: true, EPC: 7, TV: 2100, Cause: 8, Addr: 9}
	want := api.CPU{R: api.Regs16{1: 11, 15: 25}, PC: 2100, EIE: true, EPC: 2050, TV: 2100, Cause: 1, Addr: 77}
	check(t, "where it could be interrupted", enter(t, c, api.CausePage, 77), want)
	c.IE, c.EIE = false, true
	want.EIE = false
	check(t, "where it couldn't", enter(t, c, api.CausePage, 77), want)
}

// P6.1 Enter: of each cause, with each address, of each processor that takes traps: every field behind it.
func TestEnter(t *testing.T) {
	for _, c := range processors() {
		if c.TV == 0 {
			continue
		}
		for _, why := range causes() {
			for _, w := range edgeWords() {
				before := c
				check(t, "taken", enter(t, c, why, w), entered(c, uint32(why), w))
				check(t, "what was handed in", c, before)
			}
		}
	}
}

// P6.1 Enter: any TV but 0 is one where traps are taken.
func TestEnterAnywhere(t *testing.T) {
	at := append(edgeWords(), 2050, 3001) // PC and EPC of unlike too
	for bit := range 32 {
		at = append(at, 1<<bit)
	}
	for _, w := range at {
		if w == 0 {
			continue
		}
		c := withTV(unlike(true, false), w)
		check(t, "taken", enter(t, c, api.CauseKey, 5), entered(c, api.CauseKey, 5))
	}
}

// P6.1, P0.1, P0.6 Enter: a cause that the document doesn't have is one too, cut to a word.
func TestEnterWhatever(t *testing.T) {
	c := unlike(true, false)
	for _, x := range []struct {
		cause int
		want  uint32
	}{{0, 0}, {8, 8}, {255, 255}, {256, 256}, {-1, most}, {most, most}, {most + 1, 0}, {math.MinInt, 0}, {math.MaxInt, most}} {
		check(t, "taken", enter(t, c, x.cause, 5), entered(c, x.want, 5))
		if got, is := trap.Enter(withTV(c, 0), x.cause, 5); is || got != withTV(c, 0) {
			t.Errorf("Enter of %d where TV is 0: %+v, %v", x.cause, got, is)
		}
	}
}

// P6.1 Enter: where TV is 0 it is not taken, and the processor is as it was.
func TestEnterNowhere(t *testing.T) {
	for _, c := range processors() {
		c.TV = 0
		for _, why := range causes() {
			for _, w := range edgeWords() {
				if got, is := trap.Enter(c, why, w); is || got != c {
					t.Fatalf("Enter(%+v, %d, %d) = %+v, %v", c, why, w, got, is)
				}
			}
		}
	}
}

// P6.1 Return: of any processor, of one that took no trap too: every field behind it, EPC 0 and EIE off among them.
func TestReturn(t *testing.T) {
	for _, c := range processors() {
		for _, e := range []api.CPU{c, withTV(c, 0)} {
			before := e
			check(t, "returned", trap.Return(e), returned(e))
			check(t, "what was handed in", e, before)
		}
	}
	check(t, "of none", trap.Return(api.CPU{}), api.CPU{})
	c := api.CPU{R: api.Regs16{3: 4}, PC: 2100, EIE: true, EPC: 2050, TV: 2100, Cause: 1, Addr: 77}
	want := api.CPU{R: api.Regs16{3: 4}, PC: 2050, IE: true, TV: 2100, Cause: 1, Addr: 77}
	check(t, "one written out", trap.Return(c), want)
}

// P6.1 Return: once more it is at 0, and not to be interrupted.
func TestReturnTwice(t *testing.T) {
	for _, c := range processors() {
		want := trap.Return(c)
		want.PC, want.IE = 0, false
		check(t, "twice", trap.Return(trap.Return(c)), want)
	}
}

// P6.1, the chapter's example: Return of Enter: PC and IE are as they were, and cause and address are still told.
func TestReturnOfEnter(t *testing.T) {
	for _, c := range processors() {
		if c.TV == 0 {
			continue
		}
		for _, why := range causes() {
			want := c
			want.EPC, want.EIE, want.Cause, want.Addr = 0, false, uint32(why), most
			check(t, "there and back", trap.Return(enter(t, c, why, most)), want)
		}
	}
}

// P6.1 Return: what was done between is kept: registers, a new TV, another way back.
func TestReturnOfChanged(t *testing.T) {
	c := enter(t, unlike(true, false), api.CauseCall, 6)
	c.R[7], c.TV, c.PC, c.IE, c.EPC, c.Cause, c.Addr = 70, 2200, 2103, true, 2052, 55, 66
	want := c
	want.PC, want.IE, want.EPC, want.EIE = 2052, true, 0, false
	check(t, "changed", trap.Return(c), want)
	c.EIE = false
	want.IE = false
	check(t, "changed, EIE too", trap.Return(c), want)
}

// P6.1 Enter: a second trap ahead of the way back: the first one's way back is gone, the second's leads to TV.
func TestEnterTwice(t *testing.T) {
	for _, ie := range []bool{false, true} {
		c := unlike(ie, !ie)
		d := enter(t, enter(t, c, api.CausePage, 77), api.CausePriv, 88)
		want := c
		want.PC, want.IE, want.EIE, want.EPC, want.Cause, want.Addr = c.TV, false, false, c.TV, api.CausePriv, 88
		check(t, "two traps", d, want)
		want.EPC = 0
		check(t, "one way back", trap.Return(d), want)
		want.PC = 0
		check(t, "two ways back", trap.Return(trap.Return(d)), want)
	}
}

// P6.1 Enter: a second trap where the handler has gone on, and lets itself be interrupted.
func TestEnterWithin(t *testing.T) {
	c := enter(t, unlike(false, true), api.CausePage, 77)
	c.PC, c.IE, c.TV = 2107, true, 2300
	d := enter(t, c, api.CauseTimer, 0)
	check(t, "within", d, entered(c, api.CauseTimer, 0))
	want := c
	want.EPC, want.EIE, want.Cause, want.Addr = 0, false, api.CauseTimer, 0
	check(t, "back within", trap.Return(d), want)
}

// device is one whose timer rings at 10, on which these keys were pressed.
func device(t *testing.T, keys ...uint32) *dev.Dev {
	t.Helper()
	d := new(dev.Dev)
	d.Set(3, 7)
	press(t, d, keys...)
	return d
}

func press(t *testing.T, d *dev.Dev, keys ...uint32) {
	t.Helper()
	for _, key := range keys {
		if !d.Press(key) {
			t.Fatalf("Press(%d) is false", key)
		}
	}
}

// checkWaits holds Waits of a processor that can be interrupted against a cause; of one that can't it is 0.
func checkWaits(t *testing.T, what string, d *dev.Dev, now int64, port bool, want int) {
	t.Helper()
	for _, eie := range []bool{false, true} {
		if got := trap.Waits(unlike(true, eie), d, now, port); got != want {
			t.Errorf("%s: Waits at %d, port %v, EIE %v, is %d, want %d", what, now, port, eie, got, want)
		}
		if got := trap.Waits(unlike(false, eie), d, now, port); got != 0 {
			t.Errorf("%s: Waits at %d, port %v, EIE %v, where IE is off, is %d", what, now, port, eie, got)
		}
	}
}

// P6.2 Waits: none of the three, each alone, each two, all together.
func TestWaits(t *testing.T) {
	for _, x := range []struct {
		timer, key, port bool
		want             int
	}{
		{false, false, false, 0},
		{true, false, false, api.CauseTimer},
		{false, true, false, api.CauseKey},
		{false, false, true, api.CausePort},
		{true, true, false, api.CauseTimer},
		{true, false, true, api.CauseTimer},
		{false, true, true, api.CauseKey},
		{true, true, true, api.CauseTimer},
	} {
		var keys []uint32
		if x.key {
			keys = []uint32{65}
		}
		now := int64(9)
		if x.timer {
			now = 10
		}
		checkWaits(t, "one that is set", device(t, keys...), now, x.port, x.want)
	}
}

// P6.2 Waits: only IE, the devices and the port tell: whatever else a processor has is nothing to it.
func TestWaitsOfAnyProcessor(t *testing.T) {
	d := device(t, 65)
	for _, c := range processors() {
		for _, e := range []api.CPU{c, withTV(c, 0)} {
			before, want := e, [3]int{}
			if e.IE {
				want = [3]int{api.CauseTimer, api.CauseKey, api.CausePort}
			}
			got := [3]int{trap.Waits(e, d, 10, true), trap.Waits(e, d, 9, true), trap.Waits(e, new(dev.Dev), 10, true)}
			if got != want || e != before {
				t.Errorf("Waits of %+v: %v, want %v", before, got, want)
			}
		}
	}
}

// P6.2 Waits: of a processor that has taken a trap nothing; of one that is back again what there was.
func TestWaitsOfEntered(t *testing.T) {
	d := device(t, 65)
	c := enter(t, unlike(true, false), api.CauseTimer, 0)
	if got := trap.Waits(c, d, 10, true); got != 0 {
		t.Errorf("within a trap: %d", got)
	}
	if got := trap.Waits(trap.Return(c), d, 10, true); got != api.CauseTimer {
		t.Errorf("back from it: %d", got)
	}
}

// edgeTimes are times at which a sum or a difference could go wrong.
func edgeTimes() []int64 {
	return []int64{math.MinInt64, math.MinInt64 + 1, -most - 1, -most, -1, 0, 1, high - 1, high, most, most + 1, api.MaxTime - 1, api.MaxTime, api.MaxTime + 1, math.MaxInt64 - 1, math.MaxInt64}
}

// checkBoth holds Waits with the port and without it, where it is the timer or nothing of the devices.
func checkBoth(t *testing.T, what string, d *dev.Dev, now int64, timer bool) {
	t.Helper()
	alone, beside := 0, api.CausePort
	if timer {
		alone, beside = api.CauseTimer, api.CauseTimer
	}
	checkWaits(t, what, d, now, false, alone)
	checkWaits(t, what, d, now, true, beside)
}

// P6.2 Waits: a timer at its time, ahead of it, behind it.
func TestWaitsTimer(t *testing.T) {
	for _, x := range []struct {
		from  int64
		after uint32
	}{{0, 1}, {3, 7}, {0, most}, {api.MaxTime, 1}, {-20, 5}, {-5, 5}, {-5, 20}, {math.MinInt64, most}, {math.MaxInt64 - most, most}, {math.MaxInt64 - 1, 1}} {
		d := new(dev.Dev)
		d.Set(x.from, x.after)
		at := x.from + int64(x.after)
		checkBoth(t, "ahead", d, at-1, false)
		checkBoth(t, "when it is set", d, x.from, false)
		checkBoth(t, "at its time", d, at, true)
		checkBoth(t, "behind it", d, math.MaxInt64, true)
		if at < math.MaxInt64 {
			checkBoth(t, "one behind it", d, at+1, true)
		}
	}
}

// P6.2 Waits: a timer that is not set, that was put off, that was heard; then one that is set anew.
func TestWaitsTimerNever(t *testing.T) {
	off, heard := device(t), device(t)
	off.Set(3, 0)
	heard.Rang()
	for _, now := range append(edgeTimes(), 9, 10, 11) {
		checkBoth(t, "never set", new(dev.Dev), now, false)
		checkBoth(t, "put off", off, now, false)
		checkBoth(t, "heard", heard, now, false)
	}
	heard.Set(10, 2)
	checkBoth(t, "set anew", heard, 11, false)
	checkBoth(t, "set anew", heard, 12, true)
	heard.Rang()
	press(t, heard, 65)
	checkWaits(t, "heard, and a key", heard, 12, true, api.CauseKey)
}

// P6.2 Waits: a key waits, whatever it is, and as long as one does: the last of MaxKeys as the first.
func TestWaitsKey(t *testing.T) {
	for _, key := range edgeWords() { // 0 is among them
		d := device(t, key)
		checkWaits(t, "a key", d, 9, false, api.CauseKey)
		checkWaits(t, "a key", d, 9, true, api.CauseKey)
		checkWaits(t, "a key", d, 10, false, api.CauseTimer)
		d.In()
		checkBoth(t, "taken", d, 9, false)
		d.In()
		checkBoth(t, "none to be taken", d, 9, false)
	}
	d := device(t, make([]uint32, api.MaxKeys)...)
	for range api.MaxKeys {
		checkWaits(t, "of MaxKeys keys", d, 9, true, api.CauseKey)
		d.In()
	}
	checkBoth(t, "all taken", d, 9, false)
}

// busy is a device of which each part is in use.
func busy(t *testing.T, keys ...uint32) *dev.Dev {
	t.Helper()
	d := device(t, keys...)
	d.Out(1)
	d.Put(3, 4)
	d.End(api.SeenHalt, 5)
	return d
}

// checkBusy holds a device against what busy makes; the keys that wait are taken.
func checkBusy(t *testing.T, d *dev.Dev, keys ...uint32) {
	t.Helper()
	if d.Due(9) || !d.Due(10) || !d.Due(math.MaxInt64) {
		t.Error("the timer is not as it was")
	}
	want := []api.Seen{{Kind: api.SeenOut, N: 1}, {Kind: api.SeenWrite, A: 3, N: 4}, {Kind: api.SeenHalt, N: 5}}
	if got := d.Seen(); !slices.Equal(got, want) {
		t.Errorf("seen %v, want %v", got, want)
	}
	for s := range uint32(api.Sectors) {
		if got := d.Get(s); got != 0 && s != 3 || got != 4 && s == 3 {
			t.Errorf("sector %d is %d", s, got)
		}
	}
	if d.Keys() != len(keys) {
		t.Errorf("%d keys wait, want %d", d.Keys(), len(keys))
	}
	for _, key := range keys {
		if got := d.In(); got != key {
			t.Errorf("a key is %d, want %d", got, key)
		}
	}
}

// P6.2 Waits: it only asks: the devices are afterwards as they were, whatever it answers, however often it is asked.
func TestWaitsOnlyAsks(t *testing.T) {
	full := make([]uint32, api.MaxKeys)
	for k := range full {
		full[k] = uint32(k)
	}
	for _, keys := range [][]uint32{nil, {0}, {65}, {65, 0, 66}, full} {
		for _, now := range append(edgeTimes(), 9, 10, 11) {
			d := busy(t, keys...)
			for _, c := range []api.CPU{unlike(true, true), unlike(true, false), unlike(false, true), unlike(false, false)} {
				first := [2]int{trap.Waits(c, d, now, false), trap.Waits(c, d, now, true)}
				for range 3 {
					if again := [2]int{trap.Waits(c, d, now, false), trap.Waits(c, d, now, true)}; again != first {
						t.Fatalf("asked again at %d: %v, at first %v", now, again, first)
					}
				}
			}
			checkBusy(t, d, keys...)
		}
	}
}
