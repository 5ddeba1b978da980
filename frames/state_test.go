package frames_test

import (
	"testing"

	"facade/api"
	"facade/frames"
)

// states are how a frame can stand, with up to two Writers and Uses.
func states() []frames.Frame {
	l := []frames.Frame{{Owner: frames.Nobody}}
	for _, owner := range []int{0, 1, api.MaxGuests - 1, frames.Monitor} {
		for uses := range 3 {
			for writers := range 3 {
				l = append(l, frames.Frame{Owner: owner, Writers: writers, Uses: uses})
			}
			l = append(l, frames.Frame{Owner: owner, Type: api.Table1, Uses: uses}, frames.Frame{Owner: owner, Type: api.Table2, Uses: uses})
		}
	}
	return l
}

// placed is three frames, the one in the middle of which stands so; the others are guest 1's.
func placed(t *testing.T, x frames.Frame) *frames.Frames {
	t.Helper()
	f := made(t, 3)
	for i, owner := range []int{1, max(x.Owner, 0), 1} {
		if k, err := f.Alloc(owner); k != i || err != nil {
			t.Fatal(k, err)
		}
	}
	if x.Owner == frames.Nobody {
		does(t, "Free", f.Free(1, 0))
	}
	if x.Type != api.Plain {
		does(t, "Make", f.Make(1, x.Owner, x.Type))
	}
	for range x.Writers {
		does(t, "Write", f.Write(1))
	}
	for range x.Uses {
		does(t, "Use", f.Use(1))
	}
	frameIs(t, "as it was placed", f, 1, x)
	return f
}

// answers holds a call on the frame in the middle: the first error that holds, or what the frame is behind it. The other
// frames are as they were.
func answers(t *testing.T, what string, f *frames.Frames, call func() error, want error, then frames.Frame) {
	t.Helper()
	if want != nil {
		refused(t, what, f, call, want)
		return
	}
	before, _ := f.Get(1)
	if err := call(); err != nil {
		t.Errorf("%s of %v: %v", what, before, err)
	}
	frameIs(t, what, f, 1, then)
	frameIs(t, what, f, 0, frames.Frame{Owner: 1})
	frameIs(t, what, f, 2, frames.Frame{Owner: 1})
}

// first is the first error that holds.
func first(l ...refusal) error {
	for _, r := range l {
		if r.holds {
			return r.err
		}
	}
	return nil
}

// refusal is an error, and whether it holds.
type refusal struct {
	err   error
	holds bool
}

// callers are owners that a call may name.
func callers() []int {
	return []int{frames.Nobody, 0, 1, 7, 8, 99, frames.Monitor, 101, -2, -1 << 32, 1 << 32}
}

func TestP16_1FreeInEachState(t *testing.T) {
	for _, x := range states() {
		for _, owner := range callers() {
			f := placed(t, x)
			want := first(
				refusal{api.ErrNone, x.Owner == frames.Nobody},
				refusal{api.ErrOwner, x.Owner != owner},
				refusal{api.ErrBusy, x.Writers > 0 || x.Uses > 0},
			)
			answers(t, "Free", f, func() error { return f.Free(1, owner) }, want, frames.Frame{Owner: frames.Nobody})
		}
	}
}

func TestP16_1MakeInEachState(t *testing.T) {
	for _, x := range states() {
		for _, owner := range callers() {
			for _, kind := range []int{api.Plain, api.Table1, api.Table2, -1, 3, 1<<32 + 1, -1 << 60} {
				f := placed(t, x)
				want := first(
					refusal{api.ErrRange, kind != api.Table1 && kind != api.Table2},
					refusal{api.ErrNone, x.Owner == frames.Nobody},
					refusal{api.ErrOwner, x.Owner != owner},
					refusal{api.ErrType, x.Type != api.Plain},
					refusal{api.ErrBusy, x.Writers > 0 || x.Uses > 0},
				)
				answers(t, "Make", f, func() error { return f.Make(1, owner, kind) }, want, frames.Frame{Owner: x.Owner, Type: kind})
			}
		}
	}
}

func TestP16_1PlainInEachState(t *testing.T) {
	for _, x := range states() {
		for _, owner := range callers() {
			f := placed(t, x)
			want := first(
				refusal{api.ErrNone, x.Owner == frames.Nobody},
				refusal{api.ErrOwner, x.Owner != owner},
				refusal{api.ErrType, x.Type == api.Plain},
				refusal{api.ErrBusy, x.Uses > 0},
			)
			answers(t, "Plain", f, func() error { return f.Plain(1, owner) }, want, frames.Frame{Owner: x.Owner})
		}
	}
}

func TestP16_2WriteAndUnwriteInEachState(t *testing.T) {
	for _, x := range states() {
		more, less := x, x
		more.Writers++
		less.Writers--
		f, g := placed(t, x), placed(t, x)
		want := first(refusal{api.ErrNone, x.Owner == frames.Nobody}, refusal{api.ErrType, x.Type != api.Plain})
		answers(t, "Write", f, func() error { return f.Write(1) }, want, more)
		want = first(refusal{api.ErrNone, x.Owner == frames.Nobody}, refusal{api.ErrBusy, x.Writers == 0})
		answers(t, "Unwrite", g, func() error { return g.Unwrite(1) }, want, less)
	}
}

func TestP16_2UseAndUnuseInEachState(t *testing.T) {
	for _, x := range states() {
		more, less := x, x
		more.Uses++
		less.Uses--
		f, g := placed(t, x), placed(t, x)
		want := first(refusal{api.ErrNone, x.Owner == frames.Nobody})
		answers(t, "Use", f, func() error { return f.Use(1) }, want, more)
		want = first(refusal{api.ErrNone, x.Owner == frames.Nobody}, refusal{api.ErrBusy, x.Uses == 0})
		answers(t, "Unuse", g, func() error { return g.Unuse(1) }, want, less)
	}
}

func TestP16_1KindIsHeldAheadOfThePlace(t *testing.T) {
	f := owned(t, 2, frames.Monitor)
	for _, i := range append(farNumbers(), -1, 0, 1, 2) {
		refused(t, "Make of no kind", f, func() error { return f.Make(i, 0, api.Plain) }, api.ErrRange)
		refused(t, "Make of no kind", f, func() error { return f.Make(i, 2, api.Table2+1) }, api.ErrRange)
	}
}

func TestP16_1And2NoSuchPlace(t *testing.T) {
	for _, n := range []int{1, 4, 17} {
		f := made(t, n)
		for range n {
			if _, err := f.Alloc(2); err != nil {
				t.Fatal(err)
			}
		}
		for _, i := range append(farNumbers(), -1, n, n+1) {
			for _, owner := range []int{2, frames.Nobody, 0} {
				refused(t, "Free", f, func() error { return f.Free(i, owner) }, api.ErrNone)
				refused(t, "Make", f, func() error { return f.Make(i, owner, api.Table1) }, api.ErrNone)
				refused(t, "Plain", f, func() error { return f.Plain(i, owner) }, api.ErrNone)
			}
			refused(t, "Write", f, func() error { return f.Write(i) }, api.ErrNone)
			refused(t, "Unwrite", f, func() error { return f.Unwrite(i) }, api.ErrNone)
			refused(t, "Use", f, func() error { return f.Use(i) }, api.ErrNone)
			refused(t, "Unuse", f, func() error { return f.Unuse(i) }, api.ErrNone)
		}
	}
}

func TestP16_1TheLastPlace(t *testing.T) {
	for _, n := range []int{1, 4, api.MaxFrames} {
		f := made(t, n)
		for range n {
			if _, err := f.Alloc(6); err != nil {
				t.Fatal(err)
			}
		}
		does(t, "Write", f.Write(n-1))
		frameIs(t, "Write", f, n-1, frames.Frame{Owner: 6, Writers: 1})
		does(t, "Unwrite", f.Unwrite(n-1))
		does(t, "Make", f.Make(n-1, 6, api.Table1))
		does(t, "Use", f.Use(n-1))
		frameIs(t, "Make and Use", f, n-1, frames.Frame{Owner: 6, Type: api.Table1, Uses: 1})
		does(t, "Unuse", f.Unuse(n-1))
		does(t, "Plain", f.Plain(n-1, 6))
		frameIs(t, "Plain", f, n-1, frames.Frame{Owner: 6})
		does(t, "Free", f.Free(n-1, 6))
		frameIs(t, "Free", f, n-1, frames.Frame{Owner: frames.Nobody})
	}
}
