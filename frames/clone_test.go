package frames_test

import (
	"slices"
	"testing"

	"facade/api"
	"facade/frames"
)

// mixed is five frames that stand in as many ways.
func mixed(t *testing.T) *frames.Frames {
	t.Helper()
	f := owned(t, 0, 1, frames.Monitor, 0, 2)
	does(t, "Write", f.Write(0))
	does(t, "Use", f.Use(0))
	does(t, "Make", f.Make(1, 1, api.Table1))
	does(t, "Use", f.Use(1))
	does(t, "Make", f.Make(3, 0, api.Table2))
	does(t, "Free", f.Free(4, 2))
	return f
}

// shaken does a call of each kind on what mixed made, each of which changes something.
func shaken(t *testing.T, f *frames.Frames) {
	t.Helper()
	does(t, "Write", f.Write(2))
	does(t, "Unwrite", f.Unwrite(0))
	does(t, "Unuse", f.Unuse(1))
	does(t, "Plain", f.Plain(1, 1))
	does(t, "Free", f.Free(3, 0))
	if k, err := f.Alloc(7); k != 3 || err != nil {
		t.Fatal(k, err)
	}
	does(t, "Make", f.Make(3, 7, api.Table1))
	does(t, "Use", f.Use(3))
	if k, err := f.Alloc(frames.Monitor); k != 4 || err != nil {
		t.Fatal(k, err)
	}
}

func TestP16_1CloneGoesItsOwnWay(t *testing.T) {
	f := mixed(t)
	was := list(f)
	g := f.Clone()
	if !slices.Equal(list(g), was) {
		t.Fatalf("a copy of %v is %v", was, list(g))
	}
	shaken(t, g)
	if !slices.Equal(list(f), was) {
		t.Errorf("the copy's calls made %v of %v", list(f), was)
	}
	h := f.Clone()
	shaken(t, f)
	if !slices.Equal(list(h), was) {
		t.Errorf("the first one's calls made %v of its copy %v", list(h), was)
	}
	if !slices.Equal(list(f), list(g)) {
		t.Errorf("the same calls made %v, and %v of a copy", list(f), list(g))
	}
	if len(g.Of(7)) != 1 || len(h.Of(7)) != 0 {
		t.Errorf("Of(7) = %v and %v", g.Of(7), h.Of(7))
	}
}

func TestP16_1CloneOfEachSize(t *testing.T) {
	for _, n := range []int{1, 2, api.MaxFrames} {
		f := made(t, n)
		g := f.Clone().Clone()
		if got := len(list(g)); got != n {
			t.Errorf("a copy of %d frames has %d", n, got)
		}
		refused(t, "Write behind the last", g, func() error { return g.Write(n) }, api.ErrNone)
	}
}

func TestP0_4ListsAreNobodys(t *testing.T) {
	f := owned(t, 2, 3, 2, 2)
	a, b := f.Of(2), f.Of(2)
	a = append(a, 9, 9, 9)
	for i := range a[:cap(a)] {
		a[:cap(a)][i] = 77
	}
	if !slices.Equal(b, []int{0, 2, 3}) {
		t.Errorf("another list shows %v", b)
	}
	for i := range b[:cap(b)] {
		b[:cap(b)][i] = 66
	}
	if got := f.Of(2); !slices.Equal(got, []int{0, 2, 3}) {
		t.Errorf("Of(2) = %v", got)
	}
	for i := range 4 {
		frameIs(t, "behind writing into lists", f, i, frames.Frame{Owner: []int{2, 3, 2, 2}[i]})
	}
}

func TestP0_4FramesAreNobodys(t *testing.T) {
	f := mixed(t)
	x, _ := f.Get(0)
	was := x
	x.Owner, x.Type, x.Writers, x.Uses = 5, api.Table2, 9, 9
	frameIs(t, "behind writing into what Get told", f, 0, was)
}
