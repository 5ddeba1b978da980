package link_test

import (
	"math"
	"slices"
	"testing"

	"facade/api"
	"facade/link"
	"facade/obj"
	"facade/rewrite"
)

// fell is one of these.
func fell[T any](d *dice, l ...T) T { return l[d.below(len(l))] }

// number is a number near a bound, as it falls.
func (d *dice) number() int {
	return fell(d, 0, 1, 2, 3, 4, 5, 6, 7, 8, -1, 255, 256, 65536, 65537, -65537, math.MaxInt, math.MinInt, math.MaxInt32)
}

// word is a word of code, as it falls.
func (d *dice) word() uint32 {
	return fell(d, 0, hc, hc, hc|1, mark(w(api.Cli, 0, 0, 0)), mark(w(api.Out, 3, 0, 0)), w(api.Nop, 0, 0, 0), w(api.Li, 1, 0, 0),
		w(api.La, 1, 0, 0), w(api.Jmp, 0, 0, 0), w(api.Br, 0, 0, 1), w(api.Cli, 0, 0, 0), mark(w(api.Nop, 0, 0, 0)), math.MaxUint32)
}

// hurt changes something of objects.
func (d *dice) hurt(l []api.Object) {
	o := &l[d.below(len(l))]
	switch n := d.below(12); {
	case n < 2 && len(o.Code) > 0:
		o.Code[d.below(len(o.Code))] = d.word()
	case n == 2 && len(o.Map) > 0:
		o.Map[d.below(len(o.Map))] = byte(d.below(4))
	case n == 3 && len(o.CRels) > 0:
		r := &o.CRels[d.below(len(o.CRels))]
		*fell(d, &r.At, &r.Kind, &r.Sym, &r.Add) = d.number()
	case n == 4 && len(o.DRels) > 0:
		r := &o.DRels[d.below(len(o.DRels))]
		*fell(d, &r.At, &r.Kind, &r.Sym, &r.Add) = d.number()
	case n == 5 && len(o.Syms) > 0:
		s := &o.Syms[d.below(len(o.Syms))]
		*fell(d, &s.In, &s.Value) = d.number()
	case n == 6 && len(o.Syms) > 0:
		s := &o.Syms[d.below(len(o.Syms))]
		s.Global = !s.Global
	case n == 7 && len(o.Syms) > 0:
		o.Syms[d.below(len(o.Syms))].Name = fell(d, "", "main", "shared", "work", "end", "nobody")
	case n == 8:
		*o = obj.Clone(l[d.below(len(l))])
	case n == 9:
		o.Map = o.Map[:d.below(len(o.Map)+1)]
	case n == 10:
		o.CRels = append(o.CRels, api.Reloc{At: d.number(), Kind: 1 + d.below(2), Sym: d.below(3)})
	default:
		o.Code, o.Map = append(o.Code, hc, d.word()), append(o.Map, 1, byte(d.below(3)))
	}
}

// validBut is what obj.Valid tells of an object, but of calls as rewrite.Do makes them: each in its turn becomes two
// instructions of one word, that nothing repairs either; where a symbol stands in its second word, which none may, it
// becomes an li.
func validBut(o api.Object) error {
	o = obj.Clone(o)
	for {
		err := obj.Valid(o)
		a, is := err.(*api.At)
		if !is || a.Err != api.ErrOp || o.Code[a.Pos] != hc || a.Pos+1 == len(o.Code) || o.Map[a.Pos+1] != 0 {
			return err
		}
		if _, is := rewrite.Back(o.Code[a.Pos+1]); !is {
			return err
		}
		if slices.ContainsFunc(o.Syms, func(s api.Sym) bool { return s.In == api.InCode && s.Value == a.Pos+1 }) {
			o.Code[a.Pos] = w(api.Li, 0, 0, 0)
			continue
		}
		nop := w(api.Nop, 0, 0, 0)
		o.Code[a.Pos], o.Code[a.Pos+1], o.Map[a.Pos+1] = nop, nop, 1
	}
}

// hasIn is where a Global symbol stands that is not Absent: in data, in code, or nowhere (0).
func hasIn(l []api.Object, name string) int {
	for _, o := range l {
		for _, s := range o.Syms {
			if s.Name == name && s.Global && s.In != api.Absent {
				return s.In
			}
		}
	}
	return 0
}

// wrongOf is what Link has to tell of a few short objects, by the promise's words.
func wrongOf(l []api.Object) error {
	for k, o := range l {
		if err := validBut(o); err != nil {
			return &api.At{Pos: k, Err: err}
		}
		for _, s := range o.Syms {
			if s.Global && s.In != api.Absent && hasIn(l[:k], s.Name) != 0 {
				return &api.At{Pos: k, Err: api.ErrTwice}
			}
		}
	}
	for k, o := range l {
		for _, s := range o.Syms {
			if s.In == api.Absent && hasIn(l, s.Name) == 0 {
				return &api.At{Pos: k, Err: api.ErrNone}
			}
		}
	}
	for k, o := range l {
		for _, r := range o.CRels {
			s := o.Syms[r.Sym]
			jump := r.Kind == api.Branch
			if o.Map[r.At] == 0 {
				op := o.Code[r.At-1] >> 24
				jump = op == api.Jmp || op == api.Jz || op == api.Jn || op == api.Call
			}
			if jump && s.In == api.Absent && hasIn(l, s.Name) == api.InData {
				return &api.At{Pos: k, Err: api.ErrShape}
			}
		}
	}
	if hasIn(l, "main") != api.InCode {
		return api.ErrNone
	}
	return nil
}

// told is the fault that an error is.
func told(err error) fault {
	f := fault{err: err}
	for a, is := err.(*api.At); is; a, is = f.err.(*api.At) {
		f = fault{a.Err, append(f.places, a.Pos)}
	}
	return f
}

// P0.1, P0.3, P13.1: objects of which something is changed, as it falls: no call panics, Link tells what is wrong by
// the promise's words, and no answer is beside an error.
func TestP13_1Any(t *testing.T) {
	var d dice
	right, wrong := 0, map[error]int{}
	for range 20000 {
		l := objects(first(), middle(), last())
		for range 1 + d.below(4) {
			d.hurt(l)
		}
		want := wrongOf(l)
		was := clones(l)
		i, err := link.Link(l...)
		checkError(t, "Link", err, told(want))
		if want != nil {
			checkNothing(t, l, i)
			wrong[told(want).err]++
			continue
		}
		right++
		if len(i.Starts) == 0 || i.Entry < 2048 || int(i.Entry) >= 2048+len(i.Code) {
			t.Errorf("an image that begins nowhere: %v", i)
		}
		checkOthers(t, l, i)
		if !sameAll(l, was) {
			t.Error("an object was changed")
		}
		if t.Failed() {
			t.Fatalf("objects %v", l)
		}
	}
	for _, err := range []error{api.ErrMap, api.ErrOp, api.ErrRange, api.ErrTwice, api.ErrShape, api.ErrNone} {
		if wrong[err] < 100 {
			t.Errorf("%v was met %d times", err, wrong[err])
		}
	}
	if right < 1000 {
		t.Errorf("%d linked", right)
	}
}

// checkNothing holds that an image is empty, and what Where and Map answer.
func checkNothing(t *testing.T, l []api.Object, i api.Image) {
	t.Helper()
	at, bad := link.Where(l, "main")
	a, b, err := link.Map(l...)
	if !sameImage(i, api.Image{}) || at != 0 || bad == nil || len(a)+len(b) > 0 || err == nil {
		t.Errorf("%v, %d, %v, %v beside an error", i, at, a, b)
	}
}

// checkOthers holds Where, Patched and Map of objects that link against their image, and against rewrite.Do.
func checkOthers(t *testing.T, l []api.Object, i api.Image) {
	t.Helper()
	if at, err := link.Where(l, "main"); at != i.Entry || err != nil {
		t.Errorf("main is at %d, %v, not at %d", at, err, i.Entry)
	}
	p, err := link.Patched(l...)
	a, b, bad := link.Map(l...)
	checkError(t, "Map", bad, told(err))
	for k, o := range l {
		if _, _, fail := rewrite.Do(o); fail != nil {
			checkError(t, "Patched", err, told(&api.At{Pos: k, Err: fail}))
			break
		}
	}
	if len(a) != len(p.Starts) || len(b) != len(p.Starts) || err == nil && len(a) != len(i.Starts) {
		t.Errorf("%d, %d and %d starts", len(i.Starts), len(a), len(b))
	}
}
