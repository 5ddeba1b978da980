package obj_test

import (
	"math"
	"testing"

	"facade/api"
	"facade/isa"
	"facade/obj"
)

// dice are numbers that look like any, the same ones each time.
type dice uint64

func (d *dice) below(n int) int {
	*d = *d*6364136223846793005 + 1442695040888963407
	return int(uint64(*d)>>33) % n
}

// one is one of these.
func one[T any](d *dice, l ...T) T { return l[d.below(len(l))] }

// object is one that is valid mostly: some of all, as it falls.
func (d *dice) object() api.Object {
	o := api.Object{Data: make([]uint32, d.below(5))}
	for range d.below(12) {
		d.item(&o)
	}
	for k := range d.below(6) {
		o.Syms = append(o.Syms, d.symbol(o, k))
	}
	for at := range o.Data {
		if d.below(2) == 0 {
			o.DRels = append(o.DRels, d.reloc(o, at, api.Word, true))
		}
	}
	for at, m := range o.Map {
		switch op := int(o.Code[at] >> 24); {
		case m == 1 && isBranch(op):
			o.CRels = append(o.CRels, d.reloc(o, at, api.Branch, false))
		case m == 0:
			o.CRels = append(o.CRels, d.reloc(o, at, api.Word, o.Code[at-1]>>24 == api.La))
		case m == 2 && d.below(2) == 0:
			o.CRels = append(o.CRels, d.reloc(o, at, api.Word, true))
		}
	}
	return o
}

// item puts an instruction or a table behind all code.
func (d *dice) item(o *api.Object) {
	op := one(d, api.Nop, api.Rti, api.Sync, api.Li, api.La, api.Jmp, api.Jz, api.Jn, api.Call, api.Br, api.Brz, api.Brn, api.Cli)
	o.Code = append(o.Code, w(op, 0, 0, 0))
	switch {
	case d.below(6) == 0:
		o.Map = append(o.Map, 2)
	case isa.Tables().Two(op):
		o.Code = append(o.Code, w(one(d, api.Nop, api.Hc, 0), 0, 0, 0))
		o.Map = append(o.Map, 1, 0)
	default:
		o.Map = append(o.Map, 1)
	}
}

func (d *dice) symbol(o api.Object, k int) api.Sym {
	s := api.Sym{Name: name(k, 2), In: 1 + d.below(3), Global: d.below(2) == 0}
	switch s.In {
	case api.InData:
		s.Value = d.below(len(o.Data) + 1)
	case api.InCode:
		s.Value = d.below(len(o.Code) + 1)
	default:
		s.Global = true
	}
	return s
}

func (d *dice) reloc(o api.Object, at, kind int, data bool) api.Reloc {
	r := api.Reloc{At: at, Kind: kind, Sym: d.below(len(o.Syms) + 1)}
	if r.Sym < len(o.Syms) && o.Syms[r.Sym].In == api.InData && data {
		r.Add = one(d, 0, 1, -1, 65536, -65536)
	}
	return r
}

// near is a number that a mistake may make of n.
func (d *dice) near(n int) int {
	return one(d, n+1, n-1, n+2, 0, 1, 2, 3, -n, 65536, 65537, -65537, 1<<32+n, math.MinInt, math.MaxInt)
}

// spoil does something to one part of an object, where it has one.
func (d *dice) spoil(o *api.Object) {
	switch part := d.below(8); {
	case part == 0 && len(o.Code) > 0:
		o.Code[d.below(len(o.Code))] = one(d, 0, math.MaxUint32, w(api.Hc, 0, 0, 0), w(api.Br, 0, 0, 0), w(api.Jmp, 0, 0, 0), w(api.Nop, 0, 0, 0), w(api.La, 16, 0, 0))
	case part == 1 && len(o.Map) > 0:
		o.Map[d.below(len(o.Map))] = one[byte](d, 0, 0, 1, 1, 2, 2, 3, 255)
	case part == 2 && len(o.Syms) > 0:
		s := &o.Syms[d.below(len(o.Syms))]
		*one(d, &s.In, &s.Value) = d.near(s.Value)
	case part == 3 && len(o.Syms) > 0:
		o.Syms[d.below(len(o.Syms))].Name = one(d, "", name(0, 2), name(1, 2), name(0, 32), name(0, 33))
	case part == 4 && len(o.Syms) > 0:
		o.Syms[d.below(len(o.Syms))].Global = false
	case part == 5 && len(o.DRels) > 0:
		d.spoilReloc(&o.DRels[d.below(len(o.DRels))])
	case part == 6 && len(o.CRels) > 0:
		d.spoilReloc(&o.CRels[d.below(len(o.CRels))])
	case part == 7 && len(o.CRels) > 0:
		k := d.below(len(o.CRels))
		o.CRels = append(o.CRels[:k], o.CRels[k+1:]...)
	}
}

func (d *dice) spoilReloc(r *api.Reloc) {
	p := one(d, &r.At, &r.Kind, &r.Sym, &r.Add)
	*p = d.near(*p)
}

// fault is what Valid has to say of an object of which nothing is too many, by the chapter's words.
func fault(o api.Object) (int, error) {
	if len(o.Map) != len(o.Code) {
		return alone, api.ErrMap
	}
	for _, part := range []func(o api.Object) (int, error){codeFault, symFault, dataFault, relFault, lackFault} {
		if pos, err := part(o); err != nil {
			return pos, err
		}
	}
	return alone, nil
}

// begins is the instruction that a word of Code begins; none, where Map has it otherwise.
func begins(o api.Object, at int) (api.Instr, bool) {
	if at < 0 || at >= len(o.Code) || o.Map[at] != 1 {
		return api.Instr{}, false
	}
	return isa.Of(o.Code[at], append(o.Code, 0)[at+1])
}

// two is the operation of the instruction of two words whose second one this is; 0, where it is none.
func two(o api.Object, at int) int {
	if in, is := begins(o, at-1); is && o.Map[at] == 0 && isa.Tables().Two(in.Op) {
		return in.Op
	}
	return 0
}

func codeFault(o api.Object) (int, error) {
	for at, m := range o.Map {
		in, is := begins(o, at)
		switch {
		case m == 1 && (!is || in.Op == api.Hc):
			return at, api.ErrOp
		case m == 1 && isa.Tables().Two(in.Op) && (at == len(o.Map)-1 || o.Map[at+1] != 0):
			return at, api.ErrMap
		case m == 0 && two(o, at) == 0 || m > 2:
			return at, api.ErrMap
		}
	}
	return alone, nil
}

func symFault(o api.Object) (int, error) {
	seen := map[string]bool{}
	for k, s := range o.Syms {
		if len(s.Name) < 1 || len(s.Name) > 32 {
			return k, api.ErrRange
		}
		if seen[s.Name] {
			return k, api.ErrTwice
		}
		seen[s.Name] = true
		_, code := begins(o, s.Value)
		data := s.Value == 0 || s.Value > 0 && s.Value < len(o.Data)
		if !(s.In == api.InData && data || s.In == api.InCode && code || s.In == api.Absent && s.Value == 0 && s.Global) {
			return k, api.ErrRange
		}
	}
	return alone, nil
}

// offRange tells whether a number of a relocation is out of its range, but for its Kind.
func offRange(o api.Object, l []api.Reloc, k, words int) bool {
	r := l[k]
	for _, ahead := range l[:k] {
		if ahead.At >= r.At {
			return true
		}
	}
	return r.At < 0 || r.At >= words || r.Sym < 0 || r.Sym >= len(o.Syms) || r.Add < -65536 || r.Add > 65536
}

func dataFault(o api.Object) (int, error) {
	for k, r := range o.DRels {
		if offRange(o, o.DRels, k, len(o.Data)) || r.Kind != 1 {
			return k, api.ErrRange
		}
		if r.Add != 0 && o.Syms[r.Sym].In != api.InData {
			return k, api.ErrShape
		}
	}
	return alone, nil
}

func relFault(o api.Object) (int, error) {
	for k, r := range o.CRels {
		if offRange(o, o.CRels, k, len(o.Code)) || r.Kind < 1 || r.Kind > 2 {
			return k, api.ErrRange
		}
		in, _ := begins(o, r.At)
		op, data := two(o, r.At), o.Syms[r.Sym].In == api.InData
		branch := r.Kind == api.Branch
		switch {
		case branch && !isBranch(in.Op), !branch && op == 0 && o.Map[r.At] != 2, !data && r.Add != 0,
			data && (branch || isa.Tables().Jumps(op)):
			return k, api.ErrShape
		}
	}
	return alone, nil
}

func lackFault(o api.Object) (int, error) {
	at := map[int]bool{}
	for _, r := range o.CRels {
		at[r.At] = true
	}
	for k := range o.Code {
		in, is := begins(o, k)
		two := isa.Tables().Two(in.Op) && in.Op != api.Li
		if is && (isBranch(in.Op) && !at[k] || two && !at[k+1]) {
			return k, api.ErrNone
		}
	}
	return alone, nil
}

// P9.1, P9.3: of many objects, valid ones and such as have one, two or three parts spoilt: Valid says what the
// chapter's words have it say; of those that are valid, Read of Bytes is the same.
func TestP9_1Whatever(t *testing.T) {
	d := dice(9)
	told := map[error]int{}
	for range 60000 {
		o := d.object()
		for range d.below(4) {
			d.spoil(&o)
		}
		pos, want := fault(o)
		told[want]++
		checkError(t, "Valid", obj.Valid(o), pos, want)
		if want == nil {
			checkObject(t, "Read of Bytes", mustRead(t, mustBytes(t, o)), o)
		}
		if t.Failed() {
			t.Fatalf("of %+v", o)
		}
	}
	for _, err := range []error{nil, api.ErrMap, api.ErrOp, api.ErrRange, api.ErrTwice, api.ErrShape, api.ErrNone} {
		if told[err] < 100 {
			t.Errorf("error %v was told %d times only", err, told[err])
		}
	}
}

// P0.11, P9.3: any bytes are an object, of just these bytes, or an error: an object's with some of them spoilt, cut or
// longer, and such as are nothing.
func TestP9_2Whatever(t *testing.T) {
	d := dice(10)
	for range 60000 {
		o := d.object()
		if obj.Valid(o) != nil {
			continue
		}
		b := mustBytes(t, o)
		for range d.below(4) {
			at := d.below(len(b))
			b[at] = one(&d, 0, 1, 2, 3, 16, 127, 128, 255, b[at]+1, b[at]-1)
		}
		checkAny(t, one(&d, b, b, b, b[:d.below(len(b))], append(b, make([]byte, d.below(40))...)))
		if t.Failed() {
			t.Fatalf("of %v", b)
		}
	}
	for n := range 300 {
		b := []byte("PV32")
		for range n {
			b = append(b, byte(d.below(256)*d.below(2)*d.below(2)))
		}
		checkAny(t, b)
	}
}
