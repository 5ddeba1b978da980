package frames_test

import (
	"testing"

	"facade/api"
	"facade/frames"
)

func TestP16_1AllocOwners(t *testing.T) {
	owners := append(farNumbers(), 99, 101, -1)
	for o := range api.MaxGuests + 3 {
		owners = append(owners, o)
	}
	for _, owner := range append(owners, frames.Monitor) {
		f := made(t, 2)
		k, err := f.Alloc(owner)
		if owner >= 0 && owner < api.MaxGuests || owner == frames.Monitor {
			if k != 0 || err != nil {
				t.Errorf("Alloc(%d) = %d, %v", owner, k, err)
			}
			frameIs(t, "Alloc", f, 0, frames.Frame{Owner: owner})
		} else {
			if k != 0 || err != api.ErrRange {
				t.Errorf("Alloc(%d) = %d, %v, not ErrRange", owner, k, err)
			}
			frameIs(t, "Alloc", f, 0, frames.Frame{Owner: frames.Nobody})
		}
		frameIs(t, "Alloc", f, 1, frames.Frame{Owner: frames.Nobody})
	}
}

func TestP16_1AllocAll(t *testing.T) {
	for _, n := range []int{1, 2, api.MaxFrames} {
		f := made(t, n)
		for i := range n {
			if k, err := f.Alloc(i % api.MaxGuests); k != i || err != nil {
				t.Fatalf("Alloc %d of %d = %d, %v", i, n, k, err)
			}
		}
		for _, owner := range []int{0, 7, frames.Monitor} {
			refused(t, "Alloc of none left", f, allocOnly(t, f, owner), api.ErrFull)
		}
		for _, owner := range []int{-1, api.MaxGuests, 99, 101} {
			refused(t, "Alloc of none left, for no owner", f, allocOnly(t, f, owner), api.ErrRange)
		}
	}
}

// allocOnly is an Alloc that is to be refused: its error, the number beside it being 0.
func allocOnly(t *testing.T, f *frames.Frames, owner int) func() error {
	return func() error {
		k, err := f.Alloc(owner)
		if k != 0 {
			t.Errorf("Alloc(%d) = %d beside %v", owner, k, err)
		}
		return err
	}
}

func TestP16_1AllocTheLeast(t *testing.T) {
	for _, back := range [][]int{{0}, {3}, {5}, {2, 4}, {4, 2}, {5, 0}, {3, 1, 2, 0}} {
		f := owned(t, 0, 1, 2, 3, 4, 5)
		left := map[int]bool{}
		for _, i := range back {
			does(t, "Free", f.Free(i, i))
			left[i] = true
		}
		for i := range 6 {
			if !left[i] {
				continue
			}
			if k, err := f.Alloc(frames.Monitor); k != i || err != nil {
				t.Errorf("%v came back: Alloc = %d, %v, not %d", back, k, err, i)
			}
			frameIs(t, "Alloc of what came back", f, i, frames.Frame{Owner: frames.Monitor})
		}
		refused(t, "Alloc behind that", f, allocOnly(t, f, 0), api.ErrFull)
	}
}

func TestP16_1AllocOfAFormerTable(t *testing.T) {
	f := owned(t, 3, 3)
	does(t, "Make", f.Make(0, 3, api.Table2))
	does(t, "Free", f.Free(0, 3))
	frameIs(t, "Free of a table", f, 0, frames.Frame{Owner: frames.Nobody})
	if k, err := f.Alloc(5); k != 0 || err != nil {
		t.Fatal(k, err)
	}
	frameIs(t, "Alloc of a former table", f, 0, frames.Frame{Owner: 5})
	does(t, "Write", f.Write(0))
}
