package frames_test

import (
	"slices"
	"testing"

	"facade/api"
	"facade/frames"
)

func TestP16_2AsManyUnwritesAsWrites(t *testing.T) {
	for _, n := range []int{0, 1, 2, 255, 256, 257, 65536, 65537} {
		f := owned(t, 4)
		for range n {
			does(t, "Write", f.Write(0))
		}
		frameIs(t, "Writes", f, 0, frames.Frame{Owner: 4, Writers: n})
		for k := range n {
			refused(t, "Free with Writers", f, func() error { return f.Free(0, 4) }, api.ErrBusy)
			does(t, "Unwrite", f.Unwrite(0))
			if k%1000 == 0 {
				frameIs(t, "Unwrites", f, 0, frames.Frame{Owner: 4, Writers: n - k - 1})
			}
		}
		refused(t, "one Unwrite more", f, func() error { return f.Unwrite(0) }, api.ErrBusy)
		frameIs(t, "Unwrites", f, 0, frames.Frame{Owner: 4})
	}
}

func TestP16_2AsManyUnusesAsUses(t *testing.T) {
	for _, kind := range []int{api.Plain, api.Table1, api.Table2} {
		for _, n := range []int{0, 1, 2, 255, 256, 257, 65536, 65537} {
			f := owned(t, frames.Monitor)
			if kind != api.Plain {
				does(t, "Make", f.Make(0, frames.Monitor, kind))
			}
			for range n {
				does(t, "Use", f.Use(0))
			}
			frameIs(t, "Uses", f, 0, frames.Frame{Owner: frames.Monitor, Type: kind, Uses: n})
			for range n {
				refused(t, "Free with Uses", f, func() error { return f.Free(0, frames.Monitor) }, api.ErrBusy)
				does(t, "Unuse", f.Unuse(0))
			}
			refused(t, "one Unuse more", f, func() error { return f.Unuse(0) }, api.ErrBusy)
			frameIs(t, "Unuses", f, 0, frames.Frame{Owner: frames.Monitor, Type: kind})
			does(t, "Free", f.Free(0, frames.Monitor))
		}
	}
}

func TestP16_2WritersAndUsesAreApart(t *testing.T) {
	f := owned(t, 0, 0)
	does(t, "Write", f.Write(0))
	refused(t, "Unuse of what is only written", f, func() error { return f.Unuse(0) }, api.ErrBusy)
	does(t, "Use", f.Use(1))
	refused(t, "Unwrite of what is only used", f, func() error { return f.Unwrite(1) }, api.ErrBusy)
	does(t, "Unwrite", f.Unwrite(0))
	does(t, "Unuse", f.Unuse(1))
	for i := range 2 {
		frameIs(t, "none left", f, i, frames.Frame{Owner: 0})
	}
}

func TestP16_2Of(t *testing.T) {
	f := made(t, 6)
	ofIs := func(what string, owner int, want ...int) {
		t.Helper()
		if got := f.Of(owner); !slices.Equal(got, want) {
			t.Errorf("%s: Of(%d) = %v, not %v", what, owner, got, want)
		}
	}
	ofIs("a new one", frames.Nobody, 0, 1, 2, 3, 4, 5)
	for _, owner := range append(farNumbers(), 0, 7, 8, 99, frames.Monitor, 101) {
		ofIs("a new one", owner)
	}
	for _, owner := range []int{3, 0, frames.Monitor, 3, 0} {
		if _, err := f.Alloc(owner); err != nil {
			t.Fatal(err)
		}
	}
	ofIs("some", 0, 1, 4)
	ofIs("some", 3, 0, 3)
	ofIs("some", frames.Monitor, 2)
	ofIs("some", frames.Nobody, 5)
	ofIs("none", 1)
	ofIs("none", 7)
	does(t, "Make", f.Make(3, 3, api.Table1))
	does(t, "Use", f.Use(3))
	does(t, "Write", f.Write(0))
	ofIs("kinds and counts don't tell", 3, 0, 3)
	does(t, "Free", f.Free(1, 0))
	ofIs("one came back", 0, 4)
	ofIs("one came back", frames.Nobody, 1, 5)
	for range 2 {
		if _, err := f.Alloc(7); err != nil {
			t.Fatal(err)
		}
	}
	ofIs("all are somebody's", frames.Nobody)
	ofIs("what came back", 7, 1, 5)
}

func TestP16_2OfAll(t *testing.T) {
	f := made(t, api.MaxFrames)
	var all []int
	for i := range api.MaxFrames {
		if _, err := f.Alloc(frames.Monitor); err != nil {
			t.Fatal(err)
		}
		all = append(all, i)
	}
	if got := f.Of(frames.Monitor); !slices.Equal(got, all) {
		t.Errorf("Of = %v", got)
	}
	if got := f.Of(frames.Nobody); len(got) != 0 {
		t.Errorf("Of(Nobody) = %v", got)
	}
}
