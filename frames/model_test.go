package frames_test

import (
	"slices"
	"testing"

	"facade/api"
	"facade/frames"
)

// dice are numbers that look thrown, the same each time.
type dice uint64

// throw is a number from 0 to below n.
func (d *dice) throw(n int) int {
	*d = *d*6364136223846793005 + 1442695040888963407
	return int(uint64(*d>>33) % uint64(n))
}

// model is frames as the chapter's words have them: whose each is, its kind, and how many write and use it, each in a
// list of its own.
type model struct{ owner, kind, writers, uses []int }

// modelOf is a model of n frames.
func modelOf(n int) *model {
	return &model{slices.Repeat([]int{-1}, n), make([]int, n), make([]int, n), make([]int, n)}
}

// deed is a call, by its number, with what it is given.
type deed struct{ call, i, owner, kind int }

// nobodys tells whether there is no such frame, or it is Nobody's.
func (m *model) nobodys(i int) bool { return i < 0 || i >= len(m.owner) || m.owner[i] == -1 }

// refuses is the error that a call answers.
func (m *model) refuses(d deed) error {
	kind := d.kind == api.Table1 || d.kind == api.Table2
	mayOwn := slices.Contains([]int{0, 1, 2, 3, 4, 5, 6, 7, 100}, d.owner)
	if d.call == 0 {
		return first(refusal{api.ErrRange, !mayOwn}, refusal{api.ErrFull, !slices.Contains(m.owner, -1)})
	}
	if d.call == 2 && !kind {
		return api.ErrRange
	}
	if m.nobodys(d.i) {
		return api.ErrNone
	}
	written, used, table, others := m.writers[d.i] > 0, m.uses[d.i] > 0, m.kind[d.i] != api.Plain, m.owner[d.i] != d.owner
	switch d.call {
	case 1:
		return first(refusal{api.ErrOwner, others}, refusal{api.ErrBusy, written || used})
	case 2:
		return first(refusal{api.ErrOwner, others}, refusal{api.ErrType, table}, refusal{api.ErrBusy, written || used})
	case 3:
		return first(refusal{api.ErrOwner, others}, refusal{api.ErrType, !table}, refusal{api.ErrBusy, used})
	case 4:
		return first(refusal{api.ErrType, table})
	case 5:
		return first(refusal{api.ErrBusy, !written})
	case 7:
		return first(refusal{api.ErrBusy, !used})
	}
	return nil
}

// does is what a call that isn't refused does; the number that it answers, if it answers one.
func (m *model) does(d deed) int {
	switch d.call {
	case 0:
		i := slices.Index(m.owner, -1)
		m.owner[i] = d.owner
		return i
	case 1:
		m.owner[d.i], m.kind[d.i] = -1, api.Plain
	case 2:
		m.kind[d.i] = d.kind
	case 3:
		m.kind[d.i] = api.Plain
	case 4:
		m.writers[d.i]++
	case 5:
		m.writers[d.i]--
	case 6:
		m.uses[d.i]++
	case 7:
		m.uses[d.i]--
	}
	return 0
}

// call does a deed on frames.
func call(f *frames.Frames, d deed) (int, error) {
	switch d.call {
	case 0:
		return f.Alloc(d.owner)
	case 1:
		return 0, f.Free(d.i, d.owner)
	case 2:
		return 0, f.Make(d.i, d.owner, d.kind)
	case 3:
		return 0, f.Plain(d.i, d.owner)
	case 4:
		return 0, f.Write(d.i)
	case 5:
		return 0, f.Unwrite(d.i)
	case 6:
		return 0, f.Use(d.i)
	}
	return 0, f.Unuse(d.i)
}

// thrown is a deed that is mostly of a frame that there is, by an owner that it may have.
func (d *dice) thrown(n int) deed {
	calls := []int{0, 0, 1, 2, 2, 3, 3, 4, 5, 5, 6, 7, 7}
	owners := []int{0, 0, 0, 0, 0, 1, 1, 1, 7, frames.Monitor, frames.Monitor, frames.Nobody, 8, 99, -2}
	kinds := []int{api.Table1, api.Table1, api.Table1, api.Table2, api.Table2, api.Table2, api.Plain, 3, -1}
	return deed{calls[d.throw(len(calls))], d.throw(n+2) - 1, owners[d.throw(len(owners))], kinds[d.throw(len(kinds))]}
}

// sound holds what P16.3 says of each frame always.
func sound(t *testing.T, f *frames.Frames) {
	t.Helper()
	for i, x := range list(f) {
		if x.Type != api.Plain && x.Writers != 0 {
			t.Fatalf("frame %d is %v: a table with Writers", i, x)
		}
		if x.Owner == frames.Nobody && x != (frames.Frame{Owner: frames.Nobody}) {
			t.Fatalf("frame %d is %v: Nobody's", i, x)
		}
		if x.Writers < 0 || x.Uses < 0 || x.Type < api.Plain || x.Type > api.Table2 {
			t.Fatalf("frame %d is %v", i, x)
		}
	}
}

// alike holds frames against the model.
func alike(t *testing.T, f *frames.Frames, m *model) {
	t.Helper()
	l := list(f)
	if len(l) != len(m.owner) {
		t.Fatalf("%d frames, not %d", len(l), len(m.owner))
	}
	for i, x := range l {
		if x != (frames.Frame{Owner: m.owner[i], Type: m.kind[i], Writers: m.writers[i], Uses: m.uses[i]}) {
			t.Fatalf("frame %d is %v, not of %v", i, x, *m)
		}
	}
	for _, owner := range []int{-2, -1, 0, 1, 7, 8, 99, 100} {
		var want []int
		for i, o := range m.owner {
			if o == owner {
				want = append(want, i)
			}
		}
		if got := f.Of(owner); !slices.Equal(got, want) {
			t.Fatalf("Of(%d) = %v, not %v", owner, got, want)
		}
	}
}

func TestP16_3AnyCallsWhatever(t *testing.T) {
	var done, not [8]int
	for seed := range 200 {
		d := dice(seed)
		n := 1 + d.throw(5)
		f, m := made(t, n), modelOf(n)
		for range 400 {
			x := d.thrown(n)
			want := m.refuses(x)
			answer := 0
			if want == nil {
				answer = m.does(x)
				done[x.call]++
			} else {
				not[x.call]++
			}
			if got, err := call(f, x); got != answer || err != want {
				t.Fatalf("seed %d: %v answers %d, %v, not %d, %v", seed, x, got, err, answer, want)
			}
			sound(t, f)
			alike(t, f, m)
		}
	}
	for k := range 8 {
		if done[k] < 100 || not[k] < 100 {
			t.Errorf("call %d: %d done, %d refused: too few to tell", k, done[k], not[k])
		}
	}
}

func TestP0_5TheSameCallsAnswerTheSame(t *testing.T) {
	for seed := range 20 {
		d := dice(seed)
		f, g := made(t, 4), made(t, 4)
		for range 300 {
			x := d.thrown(4)
			a, e := call(f, x)
			b, r := call(g, x)
			if a != b || e != r {
				t.Fatalf("seed %d: %v answers %d, %v and %d, %v", seed, x, a, e, b, r)
			}
		}
		if !slices.Equal(list(f), list(g)) {
			t.Fatalf("seed %d: %v and %v", seed, list(f), list(g))
		}
	}
}
