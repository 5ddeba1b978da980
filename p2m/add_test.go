package p2m_test

import (
	"math"
	"slices"
	"testing"

	"facade/api"
	"facade/p2m"
)

// full is how many numbers there may be.
const full = 512

// notFrames are no frames of memory, though some are when they are cut to fewer bits.
func notFrames() []int {
	return []int{
		-1, -2, -512, -1023, -1024, -1 << 16, -1 << 32, -1 << 60, math.MinInt, math.MinInt + 1,
		api.MaxFrames, api.MaxFrames + 1, 2 * api.MaxFrames, 1<<16 + 5, 1 << 31, 1<<32 - 1, 1 << 32, 1<<32 + 7, 1 << 60, math.MaxInt - 1, math.MaxInt,
	}
}

// add adds a frame that has to get a number.
func add(t *testing.T, p *p2m.Map, frame, number int) {
	t.Helper()
	if n, err := p.Add(frame); n != number || err != nil {
		t.Fatalf("Add(%d) = %d, %v, not %d", frame, n, err, number)
	}
}

// of is the map of these frames, in their order.
func of(t *testing.T, frames ...int) *p2m.Map {
	t.Helper()
	var p p2m.Map
	for i, frame := range frames {
		add(t, &p, frame, i)
	}
	return &p
}

// filled is a map of as many frames as there may be; number i names 2 times i and 1.
func filled(t *testing.T) *p2m.Map {
	t.Helper()
	return of(t, odd()...)
}

// odd is the frames of a filled one.
func odd() []int {
	frames := make([]int, full)
	for i := range frames {
		frames[i] = 2*i + 1
	}
	return frames
}

// is holds all that a map tells against the frames that it has to name.
func is(t *testing.T, what string, p *p2m.Map, frames ...int) {
	t.Helper()
	if l := p.All(); !slices.Equal(l, frames) {
		t.Fatalf("%s: All() = %v, not %v", what, l, frames)
	}
	if n := p.Len(); n != len(frames) {
		t.Fatalf("%s: Len() = %d, not %d", what, n, len(frames))
	}
	for i := -2; i < len(frames)+2; i++ {
		frame, there := p.Get(i)
		if want := i >= 0 && i < len(frames); there != want || want && frame != frames[i] || !want && frame != 0 {
			t.Fatalf("%s: Get(%d) = %d, %v", what, i, frame, there)
		}
	}
	number := map[int]int{}
	for i, frame := range frames {
		number[frame] = i
	}
	for frame := -2; frame < api.MaxFrames+2; frame++ {
		i, named := p.Of(frame)
		if want, there := number[frame]; i != want || named != there {
			t.Fatalf("%s: Of(%d) = %d, %v, not %d, %v", what, frame, i, named, want, there)
		}
	}
}

// addRefused holds the error of an Add that is to be refused, and that it left all as it was.
func addRefused(t *testing.T, p *p2m.Map, frame int, want error) {
	t.Helper()
	was := p.All()
	if n, err := p.Add(frame); n != 0 || err != want {
		t.Errorf("Add(%d) = %d, %v, not %v", frame, n, err, want)
	}
	is(t, "behind a refused Add", p, was...)
}

func TestP17_1ZeroValueNamesNone(t *testing.T) {
	is(t, "the zero value", &p2m.Map{})
	is(t, "a new one", new(p2m.Map))
}

func TestP17_1AddTellsHowManyThereWere(t *testing.T) {
	var p p2m.Map
	frames := []int{7, 0, api.MaxFrames - 1, 500, 1, api.MaxFrames - 2, 8, 6}
	for i, frame := range frames {
		add(t, &p, frame, i)
		is(t, "behind Add", &p, frames[:i+1]...)
	}
}

func TestP17_1AddOfEachFrame(t *testing.T) {
	for frame := range api.MaxFrames {
		p := of(t, frame)
		if i, named := p.Of(frame); i != 0 || !named {
			t.Errorf("Of(%d) = %d, %v", frame, i, named)
		}
		q := of(t, (frame+1)%api.MaxFrames, frame)
		if got, there := q.Get(1); got != frame || !there {
			t.Errorf("Get(1) = %d, %v, not %d", got, there, frame)
		}
	}
}

func TestP17_1AddRange(t *testing.T) {
	for _, p := range []*p2m.Map{of(t), of(t, 0), of(t, 0, 1023), of(t, 5, 7, 1, 512), filled(t)} {
		for _, frame := range notFrames() {
			addRefused(t, p, frame, api.ErrRange)
		}
	}
}

func TestP17_1AddTwice(t *testing.T) {
	for _, frames := range [][]int{{7}, {0}, {1023}, {3, 2, 1, 0}, {0, 1023, 512}} {
		p := of(t, frames...)
		for _, frame := range frames {
			addRefused(t, p, frame, api.ErrTwice)
		}
		add(t, p, 99, len(frames))
		addRefused(t, p, 99, api.ErrTwice)
		addRefused(t, p, frames[0], api.ErrTwice)
	}
}

func TestP17_1AddMany(t *testing.T) {
	frames := odd()
	p := of(t, frames[:full-1]...)
	is(t, "of one less than there may be", p, frames[:full-1]...)
	last := p.Clone()
	add(t, p, frames[full-1], full-1)
	is(t, "of as many as there may be", p, frames...)
	add(t, last, 0, full-1)
	addRefused(t, last, frames[full-1], api.ErrMany)
	for frame := 0; frame < api.MaxFrames; frame += 2 {
		addRefused(t, p, frame, api.ErrMany)
	}
}

func TestP17_1AddNamesTwiceAheadOfMany(t *testing.T) {
	p := filled(t)
	for _, frame := range odd() {
		addRefused(t, p, frame, api.ErrTwice)
	}
}

func TestP17_1AddAfterWhatWasRefused(t *testing.T) {
	p := of(t, 4, 9)
	addRefused(t, p, 9, api.ErrTwice)
	addRefused(t, p, -1, api.ErrRange)
	addRefused(t, p, api.MaxFrames, api.ErrRange)
	add(t, p, 5, 2)
	is(t, "behind Adds that were refused", p, 4, 9, 5)
}

func TestP0_7NoSuchNumberOrFrame(t *testing.T) {
	for _, frames := range [][]int{{}, {0}, {0, 1023, 5, 7, 1}, odd()} {
		p := of(t, frames...)
		for _, x := range notFrames() {
			if i, named := p.Of(x); i != 0 || named {
				t.Errorf("Of(%d) = %d, %v", x, i, named)
			}
			if frame, there := p.Get(x); frame != 0 || there {
				t.Errorf("Get(%d) of %d = %d, %v", x, len(frames), frame, there)
			}
		}
		is(t, "behind asking", p, frames...)
	}
}

func TestP0_5MapsAreApart(t *testing.T) {
	p, q := of(t, 3, 4), of(t)
	add(t, q, 4, 0)
	is(t, "one", p, 3, 4)
	is(t, "another one", q, 4)
}
