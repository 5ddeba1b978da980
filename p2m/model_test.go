package p2m_test

import (
	"maps"
	"slices"
	"testing"

	"facade/api"
	"facade/p2m"
)

// dice are numbers that look thrown, the same each time.
type dice uint64

// throw is a number from 0 to below n.
func (d *dice) throw(n int) int {
	*d = *d*6364136223846793005 + 1442695040888963407
	return int(uint64(*d>>33) % uint64(n))
}

// frame is mostly one of few frames of memory, so that many are named already.
func (d *dice) frame() int {
	l := []int{d.throw(12), d.throw(12), d.throw(api.MaxFrames), api.MaxFrames - 1, api.MaxFrames, -1}
	return l[d.throw(len(l))]
}

// model is a map as the chapter's words have it: by number the frame that it names, by frame its number.
type model struct{ frame, number map[int]int }

// modelOf is a model of none.
func modelOf() model { return model{map[int]int{}, map[int]int{}} }

// clone is a copy of a model.
func (m model) clone() model { return model{maps.Clone(m.frame), maps.Clone(m.number)} }

// add is what Add answers and does.
func (m model) add(frame int) (int, error) {
	n := len(m.frame)
	if frame < 0 || frame >= 1024 {
		return 0, api.ErrRange
	}
	if _, named := m.number[frame]; named {
		return 0, api.ErrTwice
	}
	if n == 512 {
		return 0, api.ErrMany
	}
	m.frame[n], m.number[frame] = frame, n
	return n, nil
}

// put is what Put answers and does.
func (m model) put(i, frame int) error {
	before, there := m.frame[i]
	if !there {
		return api.ErrNone
	}
	if frame < 0 || frame >= 1024 {
		return api.ErrRange
	}
	if j, named := m.number[frame]; named && j != i {
		return api.ErrTwice
	}
	delete(m.number, before)
	m.frame[i], m.number[frame] = frame, i
	return nil
}

// all is the frames by number.
func (m model) all() []int {
	var l []int
	for _, i := range slices.Sorted(maps.Keys(m.frame)) {
		l = append(l, m.frame[i])
	}
	return l
}

// same does a thrown call on a map and on its model; it is the error that both answer.
func same(t *testing.T, d *dice, p *p2m.Map, m model) error {
	t.Helper()
	frame := d.frame()
	if d.throw(3) == 0 {
		n, err := p.Add(frame)
		if number, want := m.add(frame); n != number || err != want {
			t.Fatalf("Add(%d) = %d, %v, not %d, %v", frame, n, err, number, want)
		}
		return err
	}
	i := d.throw(p.Len()+2) - 1
	err := p.Put(i, frame)
	if want := m.put(i, frame); err != want {
		t.Fatalf("Put(%d, %d): %v, not %v", i, frame, err, want)
	}
	return err
}

func TestP17_1AnyCallsWhatever(t *testing.T) {
	met := map[error]int{}
	for seed := range 40 {
		d := dice(seed)
		p, m := new(p2m.Map), modelOf()
		for range 60 {
			met[same(t, &d, p, m)]++
			is(t, "behind any call", p, m.all()...)
		}
		q, n := p.Clone(), m.clone()
		for range 20 {
			same(t, &d, p, m)
			same(t, &d, q, n)
		}
		is(t, "one that was copied", p, m.all()...)
		is(t, "a copy", q, n.all()...)
	}
	for _, err := range []error{nil, api.ErrRange, api.ErrTwice, api.ErrNone} {
		if met[err] < 100 {
			t.Errorf("%v is met %d times: too few to tell", err, met[err])
		}
	}
}

func TestP17_1AnyCallsUpToTheMost(t *testing.T) {
	met := map[error]int{}
	d := dice(1)
	p, m := new(p2m.Map), modelOf()
	for range 8000 {
		frame := d.throw(api.MaxFrames)
		n, err := p.Add(frame)
		if number, want := m.add(frame); n != number || err != want {
			t.Fatalf("Add(%d) = %d, %v, not %d, %v", frame, n, err, number, want)
		}
		met[err]++
		met[same(t, &d, p, m)]++
	}
	is(t, "of as many as there may be", p, m.all()...)
	if p.Len() != full || met[api.ErrMany] < 100 || met[api.ErrTwice] < 100 {
		t.Errorf("%d frames, %d times ErrMany, %d times ErrTwice: too few to tell", p.Len(), met[api.ErrMany], met[api.ErrTwice])
	}
}

func TestP0_5TheSameCallsAnswerTheSame(t *testing.T) {
	for seed := range 10 {
		a, b := dice(seed), dice(seed)
		p, q := new(p2m.Map), new(p2m.Map)
		m, n := modelOf(), modelOf()
		for range 200 {
			if x, y := same(t, &a, p, m), same(t, &b, q, n); x != y {
				t.Fatalf("seed %d: %v and %v", seed, x, y)
			}
		}
		if !slices.Equal(p.All(), q.All()) {
			t.Fatalf("seed %d: %v and %v", seed, p.All(), q.All())
		}
	}
}
