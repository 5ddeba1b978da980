package dev_test

import (
	"math"
	"math/big"
	"slices"
	"testing"

	"facade/api"
	"facade/dev"
)

const (
	most = math.MaxUint32
	high = 1 << 31
)

// edgeWords are words at which a call could go wrong.
func edgeWords() []uint32 {
	return []uint32{0, 1, 2, 15, 16, 17, 255, 256, 1 << 16, high - 1, high, high + 1, most - 1, most}
}

// edgeTimes are times at which a sum or a difference could go wrong.
func edgeTimes() []int64 {
	return []int64{math.MinInt64, math.MinInt64 + 1, math.MinInt64 + most, -1 << 40, -most - 1, -most, -high, -2, -1, 0, 1, 2, high - 1, high, most - 1, most, most + 1, api.MaxTime - 1, api.MaxTime, api.MaxTime + 1, math.MaxInt64 - most - 1, math.MaxInt64 - most, math.MaxInt64 - most + 1, math.MaxInt64 - 1, math.MaxInt64}
}

// pressed is a device on which these keys were pressed.
func pressed(t *testing.T, keys ...uint32) *dev.Dev {
	t.Helper()
	d := new(dev.Dev)
	for k, key := range keys {
		if !d.Press(key) {
			t.Fatalf("Press(%d), key %d, is false", key, k)
		}
	}
	return d
}

// keysOf are so many keys from one on, none of which is 0.
func keysOf(from uint32, count int) []uint32 {
	var l []uint32
	for k := range count {
		l = append(l, from+uint32(k))
	}
	return l
}

// checkKeys holds the keys that wait against those that have to, by taking all of them; behind them there is none.
func checkKeys(t *testing.T, what string, d *dev.Dev, want ...uint32) {
	t.Helper()
	for k, key := range want {
		if got := d.Keys(); got != len(want)-k {
			t.Fatalf("%s: %d keys wait, want %d", what, got, len(want)-k)
		}
		if got := d.In(); got != key {
			t.Fatalf("%s: key %d is %d, want %d", what, k, got, key)
		}
	}
	checkNoKey(t, what, d)
}

// checkNoKey holds that no key waits, however often one is asked for.
func checkNoKey(t *testing.T, what string, d *dev.Dev) {
	t.Helper()
	for range 3 {
		if n, key := d.Keys(), d.In(); n != 0 || key != 0 {
			t.Fatalf("%s: %d keys wait, In is %d, want none", what, n, key)
		}
	}
}

// checkSectors holds all sectors against what they have to be.
func checkSectors(t *testing.T, what string, d *dev.Dev, want [api.Sectors]uint32) {
	t.Helper()
	for s, w := range want {
		if got := d.Get(uint32(s)); got != w {
			t.Errorf("%s: sector %d is %d, want %d", what, s, got, w)
		}
	}
}

// checkSeen holds what is seen against what has to be.
func checkSeen(t *testing.T, what string, d *dev.Dev, want ...api.Seen) {
	t.Helper()
	if got := d.Seen(); !slices.Equal(got, want) {
		t.Errorf("%s: seen %v, want %v", what, got, want)
	}
}

// checkDue holds Due at one time against whether it has to be.
func checkDue(t *testing.T, what string, d *dev.Dev, now int64, want bool) {
	t.Helper()
	if got := d.Due(now); got != want {
		t.Errorf("%s: Due(%d) = %v, want %v", what, now, got, want)
	}
}

// checkNever holds that a timer is not set.
func checkNever(t *testing.T, what string, d *dev.Dev) {
	t.Helper()
	for _, now := range edgeTimes() {
		checkDue(t, what, d, now, false)
	}
}

// checkNew holds a device against one that nothing was done with.
func checkNew(t *testing.T, what string, d *dev.Dev) {
	t.Helper()
	checkNoKey(t, what, d)
	checkSectors(t, what, d, [api.Sectors]uint32{})
	checkNever(t, what, d)
	checkSeen(t, what, d)
}

// P5.1: the zero value is one, and a copy of it, and one whose timer rang though it was never set.
func TestNew(t *testing.T) {
	var d dev.Dev
	checkNew(t, "the zero value", &d)
	checkNew(t, "new", new(dev.Dev))
	checkNew(t, "a copy", d.Clone())
	d.Rang()
	checkNew(t, "it rang", &d)
}

// P5.1: each is one of its own.
func TestNewApart(t *testing.T) {
	var a, b dev.Dev
	busy(&a)
	checkNew(t, "the other one", &b)
	checkNew(t, "a later one", new(dev.Dev))
}

// busy does something with each part of a device.
func busy(d *dev.Dev) {
	d.Press(1)
	d.Out(2)
	d.Put(3, 4)
	d.Set(5, 6)
	d.End(api.SeenHalt, 7)
}

// P5.1 Press, Keys, In: keys come in the order in which they were pressed, for each count of them.
func TestKeysInOrder(t *testing.T) {
	for count := range api.MaxKeys + 1 {
		keys := keysOf(1000, count)
		checkKeys(t, "rising", pressed(t, keys...), keys...)
		slices.Reverse(keys)
		checkKeys(t, "falling", pressed(t, keys...), keys...)
	}
	checkKeys(t, "each word", pressed(t, edgeWords()...), edgeWords()...)
	checkKeys(t, "alike", pressed(t, 7, 7, 8, 7), 7, 7, 8, 7)
}

// P5.1 Press: one more than MaxKeys is refused, and nothing changes: what waits, and that there is room again behind In.
func TestPressFull(t *testing.T) {
	keys := keysOf(1, api.MaxKeys)
	d := pressed(t, keys...)
	for _, key := range edgeWords() {
		if d.Press(key) || d.Keys() != api.MaxKeys {
			t.Fatalf("Press(%d) beyond MaxKeys: %d wait", key, d.Keys())
		}
	}
	checkSeen(t, "refused", d)
	if d.In() != 1 || !d.Press(500) || d.Press(501) || d.Keys() != api.MaxKeys {
		t.Error("there is room for one behind In")
	}
	checkKeys(t, "full again", d, append(keys[1:], 500)...)
	checkKeys(t, "taken all", d)
	if !d.Press(600) {
		t.Error("there is room where all are taken")
	}
	checkKeys(t, "anew", d, 600)
}

// P5.1 Press, In: a key of 0 waits as any other; it is the count that tells it from none.
func TestKeyZero(t *testing.T) {
	d := pressed(t, 0)
	if d.Keys() != 1 || d.In() != 0 || d.Keys() != 0 {
		t.Error("a key of 0")
	}
	checkKeys(t, "among others", pressed(t, 0, 5, 0, 0, 6), 0, 5, 0, 0, 6)
	d = pressed(t, make([]uint32, api.MaxKeys)...)
	if d.Press(0) || d.Press(1) {
		t.Error("one beyond MaxKeys keys of 0")
	}
	checkKeys(t, "MaxKeys of them", d, make([]uint32, api.MaxKeys)...)
}

// P5.1 In: of none it is 0, and changes nothing: keys that come later are there, in order.
func TestInOfNone(t *testing.T) {
	d := new(dev.Dev)
	for range 2*api.MaxKeys + 1 {
		checkNoKey(t, "none", d)
	}
	checkKeys(t, "later", pressedOn(t, d, keysOf(1, api.MaxKeys)...), keysOf(1, api.MaxKeys)...)
	d.Press(9)
	checkKeys(t, "one", d, 9)
}

// pressedOn presses keys on a device that is there.
func pressedOn(t *testing.T, d *dev.Dev, keys ...uint32) *dev.Dev {
	t.Helper()
	for _, key := range keys {
		if !d.Press(key) {
			t.Fatalf("Press(%d) is false", key)
		}
	}
	return d
}

// P5.1 Press, In: in turn, with each number of keys that wait all the time, many times MaxKeys of them.
func TestKeysInTurn(t *testing.T) {
	for waiting := range api.MaxKeys {
		d := pressed(t, keysOf(1, waiting)...)
		for k := range uint32(5 * api.MaxKeys) {
			if !d.Press(uint32(waiting)+k+1) || d.Keys() != waiting+1 {
				t.Fatalf("with %d waiting: %d wait behind Press", waiting, d.Keys())
			}
			if got := d.In(); got != k+1 || d.Keys() != waiting {
				t.Fatalf("with %d waiting: In is %d, want %d", waiting, got, k+1)
			}
		}
		checkKeys(t, "in turn", d, keysOf(5*api.MaxKeys+1, waiting)...)
	}
}

// P5.1 Put, Get: each sector is what was written into it at last; numbers are modulo Sectors, and so is what is seen.
func TestSectors(t *testing.T) {
	for _, base := range []uint32{0, api.Sectors, 2 * api.Sectors, 1 << 16, high - api.Sectors, high, most - api.Sectors + 1} {
		d := new(dev.Dev)
		var want [api.Sectors]uint32
		var seen []api.Seen
		for s := range uint32(api.Sectors) {
			want[s] = 1000 + s
			d.Put(base+s, want[s])
			seen = append(seen, api.Seen{Kind: api.SeenWrite, A: s, N: want[s]})
			checkSectors(t, "written", d, want)
		}
		checkSeen(t, "written", d, seen...)
	}
}

// P5.1 Get: any number is a sector's.
func TestGetWhatever(t *testing.T) {
	d := new(dev.Dev)
	for s := range uint32(api.Sectors) {
		d.Put(s, 1000+s)
	}
	for _, s := range append(edgeWords(), 14, 18, 31, 32, 33, 47, 48, most-15, most-16) {
		if got, want := d.Get(s), 1000+s%16; got != want {
			t.Errorf("Get(%d) = %d, want %d", s, got, want)
		}
	}
}

// P5.1 Put: any word, written over any other, is seen each time, one that was there already too.
func TestPutWords(t *testing.T) {
	d := new(dev.Dev)
	var seen []api.Seen
	for _, w := range append(edgeWords(), 5, 5, 0, 0) {
		d.Put(7, w)
		d.Put(23, w)
		if d.Get(7) != w || d.Get(23) != w || d.Get(6) != 0 || d.Get(8) != 0 {
			t.Errorf("Put(7, %d): %d", w, d.Get(7))
		}
		seen = append(seen, api.Seen{Kind: api.SeenWrite, A: 7, N: w}, api.Seen{Kind: api.SeenWrite, A: 7, N: w})
	}
	checkSeen(t, "written", d, seen...)
}

// P5.1 Out: each word is seen, and is nowhere else.
func TestOut(t *testing.T) {
	d := new(dev.Dev)
	var seen []api.Seen
	for _, w := range append(edgeWords(), 5, 5) {
		d.Out(w)
		seen = append(seen, api.Seen{Kind: api.SeenOut, N: w})
		checkSeen(t, "put out", d, seen...)
	}
	checkNoKey(t, "put out", d)
	checkSectors(t, "put out", d, [api.Sectors]uint32{})
	checkNever(t, "put out", d)
}

// P5.1 End: a halt has its number in N, a fault in A.
func TestEnd(t *testing.T) {
	for _, n := range edgeWords() {
		d := new(dev.Dev)
		d.End(api.SeenHalt, n)
		checkSeen(t, "a halt", d, api.Seen{Kind: api.SeenHalt, N: n})
		d = new(dev.Dev)
		d.End(api.SeenFault, n)
		checkSeen(t, "a fault", d, api.Seen{Kind: api.SeenFault, A: n})
	}
}

// P5.1 End: what is neither a halt nor a fault is nothing, those too that are one when they are cut.
func TestEndOfNeither(t *testing.T) {
	d := new(dev.Dev)
	kinds := []int{math.MinInt, -1 << 32, -1<<32 + api.SeenHalt, -256 + api.SeenFault, 256 + api.SeenHalt, 1<<16 + api.SeenFault, 1<<32 + api.SeenHalt, 1<<32 + api.SeenFault, math.MaxInt}
	for kind := -300; kind < 300; kind++ {
		if kind != api.SeenHalt && kind != api.SeenFault {
			kinds = append(kinds, kind)
		}
	}
	for _, kind := range kinds {
		for _, n := range []uint32{0, 1, most} {
			d.End(kind, n)
			checkSeen(t, "neither", d)
		}
	}
	checkNew(t, "neither", d)
}

// P5.1 Seen: all, in order, whatever was done between, and whatever has ended.
func TestSeenInOrder(t *testing.T) {
	d := new(dev.Dev)
	d.Out(0)
	d.Press(1)
	d.Put(17, 8)
	d.In()
	d.End(api.SeenFault, 6)
	d.Get(1)
	d.End(api.SeenOut, 1)
	d.Out(7)
	d.Set(3, 4)
	d.End(api.SeenHalt, 5)
	d.Due(9)
	d.End(api.SeenHalt, 5)
	d.Rang()
	d.Put(0, 0)
	d.Keys()
	d.Out(7)
	want := []api.Seen{
		{Kind: api.SeenOut}, {Kind: api.SeenWrite, A: 1, N: 8}, {Kind: api.SeenFault, A: 6}, {Kind: api.SeenOut, N: 7},
		{Kind: api.SeenHalt, N: 5}, {Kind: api.SeenHalt, N: 5}, {Kind: api.SeenWrite}, {Kind: api.SeenOut, N: 7},
	}
	checkSeen(t, "in order", d, want...)
	checkSeen(t, "asked again", d, want...)
}

// P5.1 Seen: there is no number of them that is too many.
func TestSeenMany(t *testing.T) {
	const count = 1 << 17
	d := new(dev.Dev)
	want := make([]api.Seen, 0, count)
	for k := range uint32(count) {
		if k%2 == 0 {
			d.Out(k)
			want = append(want, api.Seen{Kind: api.SeenOut, N: k})
		} else {
			d.Put(k, k)
			want = append(want, api.Seen{Kind: api.SeenWrite, A: k % 16, N: k})
		}
	}
	if !slices.Equal(d.Seen(), want) {
		t.Errorf("of %d: not what was shown", count)
	}
}

// P5.1 End: it ends nothing of the devices: keys, sectors and the timer go on.
func TestEndGoesOn(t *testing.T) {
	d := new(dev.Dev)
	busy(d)
	d.End(api.SeenFault, 1)
	d.End(api.SeenHalt, 1)
	checkDue(t, "behind the end", d, 10, false)
	checkDue(t, "behind the end", d, 11, true)
	checkSectors(t, "behind the end", d, [api.Sectors]uint32{3: 4})
	pressedOn(t, d, 50)
	checkKeys(t, "behind the end", d, 1, 50)
}

// P5.1 Set, Due: a timer is due at its time and behind it, not ahead of it.
func TestTimer(t *testing.T) {
	for _, x := range []struct {
		now   int64
		after uint32
	}{{0, 1}, {0, 2}, {100, 5}, {0, most}, {100, most}, {0, high}, {most, most}, {api.MaxTime, 1}, {api.MaxTime - 1, most}, {-10, 5}, {-10, 10}, {-10, 20}, {math.MinInt64, 1}, {math.MinInt64, most}, {math.MaxInt64 - most, most}, {math.MaxInt64 - 1, 1}} {
		var d dev.Dev
		d.Set(x.now, x.after)
		at := x.now + int64(x.after)
		for range 2 { // it stays due till it is heard
			checkDue(t, "ahead", &d, at-1, false)
			checkDue(t, "when it is set", &d, x.now, false)
			checkDue(t, "at its time", &d, at, true)
			checkDue(t, "at the last time", &d, math.MaxInt64, true)
			checkDue(t, "at the first time", &d, math.MinInt64, false)
		}
		if at < math.MaxInt64 {
			checkDue(t, "behind", &d, at+1, true)
		}
	}
}

// P5.1, P0.6 Set, Due: times are what they are without bounds: one beyond all int64 is never reached.
func TestTimerEdges(t *testing.T) {
	for _, now := range edgeTimes() {
		for _, after := range edgeWords() {
			var d dev.Dev
			d.Set(now, after)
			for _, at := range append(edgeTimes(), now-1, now, now+1, now+int64(after)-1, now+int64(after), now+int64(after)+1) {
				if got, want := d.Due(at), after != 0 && reached(now, after, at); got != want {
					t.Errorf("Set(%d, %d): Due(%d) = %v, want %v", now, after, at, got, want)
				}
			}
		}
	}
}

// reached tells, in numbers without bounds, whether a time is not ahead of now and after.
func reached(now int64, after uint32, at int64) bool {
	rings := new(big.Int).Add(big.NewInt(now), big.NewInt(int64(after)))
	return big.NewInt(at).Cmp(rings) >= 0
}

// P5.1 Set: 0 is never, of a timer that was not set, that was, that was due.
func TestSetZero(t *testing.T) {
	for _, now := range edgeTimes() {
		var d dev.Dev
		d.Set(now, 0)
		checkNever(t, "not set", &d)
		d.Set(-50, 20)
		d.Set(now, 0)
		checkNever(t, "was set", &d)
	}
}

// P5.1 Set: set anew it is the later call's, sooner or later, and nothing of the earlier one.
func TestSetAnew(t *testing.T) {
	var d dev.Dev
	for _, x := range []struct {
		now   int64
		after uint32
	}{{100, 50}, {110, 5}, {120, 500}, {10, 3}, {-7, 1}, {10, most}, {10, 4}} {
		d.Set(x.now, x.after)
		checkDue(t, "ahead", &d, x.now+int64(x.after)-1, false)
		checkDue(t, "at its time", &d, x.now+int64(x.after), true)
	}
	d.Set(0, 0)
	checkNever(t, "0", &d)
	d.Set(0, 9)
	checkDue(t, "behind a 0", &d, 8, false)
	checkDue(t, "behind a 0", &d, 9, true)
}

// P5.1 Rang: it is not set any more, whether it was due or not, till it is set anew.
func TestRang(t *testing.T) {
	var d dev.Dev
	for _, now := range edgeTimes() {
		d.Set(now, 1)
		d.Rang()
		checkNever(t, "heard", &d)
		d.Rang()
		checkNever(t, "heard twice", &d)
	}
	d.Set(100, 5)
	checkDue(t, "set anew", &d, 104, false)
	checkDue(t, "set anew", &d, 105, true)
	checkSeen(t, "heard", &d)
}

// P5.1, P0.4 Seen: what is handed out is nobody's, its spare room too.
func TestSeenIsNobodys(t *testing.T) {
	for count := 1; count < 40; count++ {
		d := new(dev.Dev)
		var want []api.Seen
		for k := range uint32(count) {
			d.Out(k + 1)
			want = append(want, api.Seen{Kind: api.SeenOut, N: k + 1})
		}
		c := d.Clone()
		first, second := d.Seen(), d.Seen()
		spoil(first)
		if !slices.Equal(second, want) || spoiled(second) {
			t.Fatalf("of %d: another list shows it: %v", count, second[:cap(second)])
		}
		checkSeen(t, "written into what was handed out", d, want...)
		d.Out(99)
		checkSeen(t, "and one more", d, append(slices.Clone(want), api.Seen{Kind: api.SeenOut, N: 99})...)
		checkSeen(t, "a copy", c, want...)
		if !slices.Equal(second, want) || spoiled(d.Seen()) || spoiled(c.Seen()) {
			t.Fatalf("of %d: what was handed out goes on with the device", count)
		}
	}
}

// strange is what no device shows.
func strange() api.Seen { return api.Seen{Kind: -7, A: 7, N: 7} }

// spoil writes into a list and into all of its spare room.
func spoil(l []api.Seen) {
	l = l[:cap(l)]
	for k := range l {
		l[k] = strange()
	}
}

// spoiled tells whether a list, or its spare room, has been spoilt.
func spoiled(l []api.Seen) bool { return slices.Contains(l[:cap(l)], strange()) }

// filled is a device of which each part is in use, and keys wait round the end of whatever holds them.
func filled(t *testing.T, shown int) *dev.Dev {
	t.Helper()
	d := pressed(t, keysOf(1, api.MaxKeys)...)
	for range 40 {
		d.In()
	}
	pressedOn(t, d, 101, 102, 103)
	for k := range uint32(shown) {
		d.Put(k, 200+k)
	}
	d.Set(100, 5)
	return d
}

// checkFilled holds a device against what filled makes; the keys that wait are taken.
func checkFilled(t *testing.T, what string, d *dev.Dev, shown int) {
	t.Helper()
	var sectors [api.Sectors]uint32
	var seen []api.Seen
	for k := range uint32(shown) {
		sectors[k%16] = 200 + k
		seen = append(seen, api.Seen{Kind: api.SeenWrite, A: k % 16, N: 200 + k})
	}
	checkSectors(t, what, d, sectors)
	checkSeen(t, what, d, seen...)
	checkDue(t, what, d, 104, false)
	checkDue(t, what, d, 105, true)
	checkKeys(t, what, d, append(keysOf(41, 24), 101, 102, 103)...)
}

// change does something with each part of a device that filled made.
func change(d *dev.Dev, n uint32) {
	d.In()
	d.Press(n)
	for s := range uint32(api.Sectors) {
		d.Put(s, n)
	}
	d.Out(n)
	d.End(api.SeenHalt, n)
	d.Set(100, 1)
}

// P5.1 Clone: a copy is alike; it goes its own way, and so does what it is of, and a copy of it.
func TestClone(t *testing.T) {
	for shown := range 40 {
		d := filled(t, shown)
		checkFilled(t, "the copy", d.Clone(), shown)
		c := d.Clone()
		if c == d {
			t.Fatal("the copy is what it is of")
		}
		change(c, 300)
		checkFilled(t, "what was copied, where the copy changed", d.Clone(), shown)
		c = d.Clone()
		e := c.Clone()
		change(d, 400)
		change(e, 500)
		checkFilled(t, "the copy, where the others changed", c, shown)
		tail := func(d *dev.Dev) []uint32 {
			var l []uint32
			for _, s := range d.Seen()[shown:] {
				l = append(l, s.N)
			}
			return l
		}
		if !slices.Equal(tail(d), slices.Repeat([]uint32{400}, 18)) || !slices.Equal(tail(e), slices.Repeat([]uint32{500}, 18)) {
			t.Fatalf("behind %d: two that go their own ways show %v and %v", shown, tail(d), tail(e))
		}
	}
}

// P5.1 Clone: each part by itself: a timer that is heard, keys that are full, nothing at all.
func TestCloneParts(t *testing.T) {
	var d dev.Dev
	d.Set(0, 7)
	c := d.Clone()
	d.Rang()
	checkNever(t, "heard", &d)
	checkDue(t, "a copy made ahead of that", c, 7, true)
	d.Set(0, 3)
	checkDue(t, "set anew", &d, 3, true)
	checkDue(t, "a copy made ahead of that", c, 3, false)

	d = *new(dev.Dev)
	pressedOn(t, &d, keysOf(1, api.MaxKeys)...)
	c = d.Clone()
	if c.Press(1) || c.In() != 1 || !c.Press(99) || d.Press(1) {
		t.Error("a copy of one whose keys are full")
	}
	checkKeys(t, "what was copied", &d, keysOf(1, api.MaxKeys)...)
	checkKeys(t, "the copy", c, append(keysOf(2, api.MaxKeys-1), 99)...)

	c = new(dev.Dev).Clone()
	busy(c)
	checkKeys(t, "a copy of a new one", c, 1)
	checkSectors(t, "a copy of a new one", c, [api.Sectors]uint32{3: 4})
}

// model is the chapter's sentences, done with lists and with numbers without bounds.
type model struct {
	keys    []uint32
	sectors [api.Sectors]uint32
	rings   *big.Int
	seen    []api.Seen
}

func (m *model) clone() *model {
	c := *m
	c.keys, c.seen = slices.Clone(m.keys), slices.Clone(m.seen)
	return &c
}

// words is a row of words that is the same each time.
type words struct{ state uint64 }

func (w *words) next() uint32 {
	w.state = w.state*6364136223846793005 + 1442695040888963407
	return uint32(w.state >> 32)
}

// one does one call, chosen by words, on a device and on the model, and holds the answers against each other.
func one(t *testing.T, r *words, d *dev.Dev, m *model) {
	t.Helper()
	times, edges := edgeTimes(), edgeWords()
	w, now := edges[r.next()%uint32(len(edges))], times[r.next()%uint32(len(times))]
	switch r.next() % 12 {
	case 0, 1, 2:
		is := len(m.keys) < api.MaxKeys
		if is {
			m.keys = append(m.keys, w)
		}
		if d.Press(w) != is {
			t.Fatalf("Press where %d wait is not %v", len(m.keys), is)
		}
	case 3:
		want := uint32(0)
		if len(m.keys) > 0 {
			want, m.keys = m.keys[0], m.keys[1:]
		}
		if got := d.In(); got != want {
			t.Fatalf("In = %d, want %d", got, want)
		}
	case 4:
		d.Out(w)
		m.seen = append(m.seen, api.Seen{Kind: api.SeenOut, N: w})
	case 5, 6:
		s := r.next()
		d.Put(s, w)
		m.sectors[s%16] = w
		m.seen = append(m.seen, api.Seen{Kind: api.SeenWrite, A: s % 16, N: w})
	case 7, 8:
		d.Set(now, w)
		m.rings = nil
		if w != 0 {
			m.rings = new(big.Int).Add(big.NewInt(now), big.NewInt(int64(w)))
		}
	case 9:
		d.Rang()
		m.rings = nil
	case 10:
		d.End(api.SeenHalt, w)
		m.seen = append(m.seen, api.Seen{Kind: api.SeenHalt, N: w})
	case 11:
		d.End(api.SeenFault, w)
		m.seen = append(m.seen, api.Seen{Kind: api.SeenFault, A: w})
	}
	holdModel(t, d, m, now, r.next())
}

// holdModel holds what changes nothing against the model.
func holdModel(t *testing.T, d *dev.Dev, m *model, now int64, sector uint32) {
	t.Helper()
	if got := d.Keys(); got != len(m.keys) {
		t.Fatalf("Keys = %d, want %d", got, len(m.keys))
	}
	if got := d.Get(sector); got != m.sectors[sector%16] {
		t.Fatalf("Get(%d) = %d, want %d", sector, got, m.sectors[sector%16])
	}
	if got, want := d.Due(now), m.rings != nil && big.NewInt(now).Cmp(m.rings) >= 0; got != want {
		t.Fatalf("Due(%d) = %v, want %v", now, got, want)
	}
	if !slices.Equal(d.Seen(), m.seen) {
		t.Fatalf("Seen = %v, want %v", d.Seen(), m.seen)
	}
}

// P5.1: any calls in any order, some devices being copies of others: each is what its own calls made of it.
func TestAnyCalls(t *testing.T) {
	for seed := range uint64(20) {
		r := &words{seed}
		ds, ms := []*dev.Dev{new(dev.Dev)}, []*model{{}}
		for range 1500 {
			k := r.next() % uint32(len(ds))
			if r.next()%50 == 0 {
				to := r.next() % 4
				c, m := ds[k].Clone(), ms[k].clone()
				if int(to) < len(ds) {
					ds[to], ms[to] = c, m
				} else {
					ds, ms = append(ds, c), append(ms, m)
				}
				continue
			}
			one(t, r, ds[k], ms[k])
		}
		for k, d := range ds {
			checkKeys(t, "at the end", d, ms[k].keys...)
			checkSectors(t, "at the end", d, ms[k].sectors)
		}
	}
}
