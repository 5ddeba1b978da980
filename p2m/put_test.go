package p2m_test

import (
	"slices"
	"testing"

	"facade/api"
	"facade/p2m"
)

// put puts a frame that a number may name.
func put(t *testing.T, p *p2m.Map, i, frame int) {
	t.Helper()
	if err := p.Put(i, frame); err != nil {
		t.Fatalf("Put(%d, %d): %v", i, frame, err)
	}
}

// putRefused holds the error of a Put that is to be refused, and that it left all as it was.
func putRefused(t *testing.T, p *p2m.Map, i, frame int, want error) {
	t.Helper()
	was := p.All()
	if err := p.Put(i, frame); err != want {
		t.Errorf("Put(%d, %d): %v, not %v", i, frame, err, want)
	}
	is(t, "behind a refused Put", p, was...)
}

func TestP17_1PutNamesIt(t *testing.T) {
	frames := []int{7, 0, api.MaxFrames - 1, 500, 1}
	for i := range frames {
		for _, frame := range []int{7, 0, api.MaxFrames - 1, 500, 1, 2, 6, 8, api.MaxFrames - 2} {
			if at := slices.Index(frames, frame); at >= 0 && at != i {
				continue
			}
			p, want := of(t, frames...), slices.Clone(frames)
			put(t, p, i, frame)
			want[i] = frame
			is(t, "behind Put", p, want...)
			put(t, p, i, frame)
			is(t, "behind the same Put again", p, want...)
		}
	}
}

func TestP17_1PutWhatTheNumberNames(t *testing.T) {
	p := filled(t)
	for i, frame := range odd() {
		put(t, p, i, frame)
	}
	is(t, "behind Put of what each names", p, odd()...)
}

func TestP17_1PutOfEachNumber(t *testing.T) {
	p, want := filled(t), odd()
	for i := range want {
		want[i]--
		put(t, p, i, want[i])
	}
	is(t, "behind Put of each number", p, want...)
}

func TestP17_1PutNone(t *testing.T) {
	for _, frames := range [][]int{{}, {0}, {1023}, {0, 1, 2, 3}, {7, 5}, odd()} {
		p := of(t, frames...)
		for _, i := range append(notFrames(), len(frames), len(frames)+1) {
			putRefused(t, p, i, 6, api.ErrNone)
		}
	}
}

func TestP17_1PutRange(t *testing.T) {
	for _, frames := range [][]int{{0}, {1023}, {0, 1, 1023}, {7, 5}, odd()} {
		p := of(t, frames...)
		for _, frame := range notFrames() {
			putRefused(t, p, 0, frame, api.ErrRange)
			putRefused(t, p, len(frames)-1, frame, api.ErrRange)
		}
	}
}

func TestP17_1PutTwice(t *testing.T) {
	frames := []int{7, 0, api.MaxFrames - 1, 500, 1}
	p := of(t, frames...)
	for i := range frames {
		for j, frame := range frames {
			if i != j {
				putRefused(t, p, i, frame, api.ErrTwice)
			}
		}
	}
}

func TestP17_1PutTwiceOfAFullOne(t *testing.T) {
	p := filled(t)
	putRefused(t, p, 0, 2*full-1, api.ErrTwice)
	putRefused(t, p, full-1, 1, api.ErrTwice)
	putRefused(t, p, full-1, 2*full-3, api.ErrTwice)
	putRefused(t, p, 300, 301, api.ErrTwice)
	put(t, p, full-1, 0)
	put(t, p, 0, 2*full-1)
}

func TestP17_1PutNamesNoneAheadOfTheOthers(t *testing.T) {
	for _, frames := range [][]int{{}, {0}, {7, 0, 1023}, odd()} {
		p := of(t, frames...)
		for _, i := range append(notFrames(), len(frames), len(frames)+1) {
			for _, frame := range slices.Concat(notFrames(), frames[:min(3, len(frames))]) {
				putRefused(t, p, i, frame, api.ErrNone)
			}
		}
	}
}

func TestP17_1PutFreesWhatWasNamed(t *testing.T) {
	p := of(t, 3, 4, 5)
	put(t, p, 1, 9)
	addRefused(t, p, 9, api.ErrTwice)
	add(t, p, 4, 3)
	is(t, "behind Add of what was named", p, 3, 9, 5, 4)
	put(t, p, 0, 10)
	put(t, p, 2, 3)
	is(t, "behind Put of what another one named", p, 10, 9, 3, 4)
	add(t, p, 5, 4)
	is(t, "behind Add of what was named", p, 10, 9, 3, 4, 5)
}

func TestP17_1PutOfAFullOneMakesNoRoom(t *testing.T) {
	p := filled(t)
	put(t, p, 17, 0)
	addRefused(t, p, 35, api.ErrMany)
	addRefused(t, p, 0, api.ErrTwice)
	put(t, p, 18, 35)
	addRefused(t, p, 35, api.ErrTwice)
	addRefused(t, p, 37, api.ErrMany)
}
