package obj

import (
	"math"
	"slices"

	"facade/api"
)

// head is how many bytes an object's begin with, whatever it is: Magic and its sizes.
const head = 24

// Read is the object that these bytes are; or what is wrong with them, or with the object.
func Read(b []byte) (api.Object, error) {
	o, err := read(b)
	if err == nil {
		err = Valid(o)
	}
	if err != nil {
		return api.Object{}, err
	}
	return o, nil
}

// read is Read, but that the object need not be valid.
func read(b []byte) (api.Object, error) {
	if len(b) < head {
		return api.Object{}, api.ErrEnd
	}
	r := &reader{rest: b}
	if r.word() != Magic {
		return api.Object{}, api.ErrShape
	}
	var n sizes
	for k := range n {
		n[k] = int64(r.word())
	}
	if n.tooMany() {
		return api.Object{}, api.ErrMany
	}
	o := r.object(n)
	if r.err == nil && len(r.rest) > 0 {
		r.err = api.ErrShape
	}
	return o, r.err
}

// reader takes bytes from the front. The first error that it meets stays; from there on whatever it takes is empty,
// or 0.
type reader struct {
	rest []byte
	err  error
}

// take is the next n bytes, as they lie there.
func (r *reader) take(n int) []byte {
	if r.err == nil && len(r.rest) < n {
		r.err = api.ErrEnd
	}
	if r.err != nil {
		return nil
	}
	b := r.rest[:n]
	r.rest = r.rest[n:]
	return b
}

// word is the next word.
func (r *reader) word() uint32 {
	var w uint32
	for k, x := range r.take(4) {
		w |= uint32(x) << (8 * k)
	}
	return w
}

// number is the next word as a number that is at most so much.
func (r *reader) number(most uint32) int {
	w := r.word()
	if w > most {
		r.err = api.ErrRange
		return 0
	}
	return int(w)
}

// object is an object of those sizes, none of them above its limit.
func (r *reader) object(n sizes) api.Object {
	var o api.Object
	o.Data = r.words(n[0])
	o.Code = r.words(n[1])
	o.Map = slices.Clone(r.take(len(o.Code)))
	o.DRels = r.relocs(n[2])
	o.CRels = r.relocs(n[3])
	o.Syms = r.syms(n[4])
	return o
}

func (r *reader) words(n int64) []uint32 {
	l := make([]uint32, n)
	for k := range l {
		l[k] = r.word()
	}
	return l
}

func (r *reader) relocs(n int64) []api.Reloc {
	l := make([]api.Reloc, n)
	for k := range l {
		l[k].At = r.number(math.MaxInt32)
		l[k].Kind = r.number(math.MaxInt32)
		l[k].Sym = r.number(math.MaxInt32)
		l[k].Add = int(int32(r.word()))
	}
	return l
}

func (r *reader) syms(n int64) []api.Sym {
	l := make([]api.Sym, n)
	for k := range l {
		l[k].In = r.number(math.MaxInt32)
		l[k].Value = r.number(math.MaxInt32)
		l[k].Global = r.number(1) == 1
		l[k].Name = string(r.take(r.number(maxName)))
	}
	return l
}
