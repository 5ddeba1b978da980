package frames_test

import (
	"math"
	"slices"
	"testing"

	"facade/api"
	"facade/frames"
)

// farNumbers are no place of any frames, and no owner, though some are when they are cut to fewer bits.
func farNumbers() []int {
	return []int{-2, -3, -100, -1024, -1 << 31, -1 << 32, -1 << 60, math.MinInt, math.MinInt + 1, api.MaxFrames, api.MaxFrames + 1, 1 << 31, 1 << 32, 1<<32 + 1, 1 << 60, math.MaxInt - 1, math.MaxInt}
}

// made is the frames of n.
func made(t *testing.T, n int) *frames.Frames {
	t.Helper()
	f, err := frames.New(n)
	if f == nil || err != nil {
		t.Fatalf("New(%d) = %v, %v", n, f, err)
	}
	return f
}

// owned is the frames of so many owners, each of which owns one, in their order.
func owned(t *testing.T, owners ...int) *frames.Frames {
	t.Helper()
	f := made(t, len(owners))
	for i, owner := range owners {
		if k, err := f.Alloc(owner); k != i || err != nil {
			t.Fatalf("Alloc(%d) = %d, %v, not %d", owner, k, err, i)
		}
	}
	return f
}

// list is each frame, by Get.
func list(f *frames.Frames) []frames.Frame {
	var l []frames.Frame
	for i := 0; ; i++ {
		x, is := f.Get(i)
		if !is {
			return l
		}
		l = append(l, x)
	}
}

// does holds the error of a call that is to be done.
func does(t *testing.T, what string, err error) {
	t.Helper()
	if err != nil {
		t.Fatalf("%s: %v", what, err)
	}
}

// refused holds the error of a call that is to be refused, and that it left all as it was.
func refused(t *testing.T, what string, f *frames.Frames, call func() error, want error) {
	t.Helper()
	was := list(f)
	if err := call(); err != want {
		t.Errorf("%s: %v, not %v", what, err, want)
	}
	if now := list(f); !slices.Equal(now, was) {
		t.Errorf("%s: %v became %v", what, was, now)
	}
}

// frameIs holds a frame against what it has to be.
func frameIs(t *testing.T, what string, f *frames.Frames, i int, want frames.Frame) {
	t.Helper()
	if x, is := f.Get(i); !is || x != want {
		t.Errorf("%s: frame %d is %v, %v, not %v", what, i, x, is, want)
	}
}

func TestP16_1NewRange(t *testing.T) {
	for _, n := range append(farNumbers(), 0, -1) {
		f, err := frames.New(n)
		if is := n >= 1 && n <= api.MaxFrames; is != (f != nil) || is != (err == nil) {
			t.Errorf("New(%d) = %v, %v", n, f, err)
		}
		if err != nil && err != api.ErrRange {
			t.Errorf("New(%d): %v, not ErrRange", n, err)
		}
	}
}

func TestP16_1NewIsNobodys(t *testing.T) {
	for _, n := range []int{1, 2, 17, api.MaxFrames - 1, api.MaxFrames} {
		f := made(t, n)
		want := slices.Repeat([]frames.Frame{{Owner: -1}}, n)
		if l := list(f); !slices.Equal(l, want) {
			t.Errorf("New(%d): %v", n, l)
		}
	}
}

func TestP0_7NoSuchFrame(t *testing.T) {
	for _, n := range []int{1, 5, api.MaxFrames} {
		f := made(t, n)
		for _, i := range append(farNumbers(), -1, n, n+1) {
			if x, is := f.Get(i); is != (i >= 0 && i < n) || !is && x != (frames.Frame{}) {
				t.Errorf("Get(%d) of %d = %v, %v", i, n, x, is)
			}
		}
	}
}

func TestP0_5NewOnesAreApart(t *testing.T) {
	f, g := made(t, 3), made(t, 3)
	if _, err := f.Alloc(4); err != nil {
		t.Fatal(err)
	}
	frameIs(t, "another one's Alloc", g, 0, frames.Frame{Owner: frames.Nobody})
}
