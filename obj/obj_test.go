package obj_test

import (
	"slices"
	"strings"
	"testing"

	"facade/api"
	"facade/obj"
)

const alone = -1 // the place of an error without a place

// w is an instruction's word.
func w(op, a, b, c int) uint32 { return uint32(op)<<24 | uint32(a)<<16 | uint32(b)<<8 | uint32(c) }

// full is a valid object that has each kind of all that one can have. Its memory is new each time.
func full() api.Object {
	return api.Object{
		Data: []uint32{7, 8, 9, 0xfffefdfc},
		Code: []uint32{
			w(api.La, 1, 0, 0), 1, // 0
			w(api.Brz, 1, 0, 2),            // 2
			w(api.Out, 1, 0, 0),            // 3
			w(api.Call, 0, 0, 0), 0x010203, // 4
			0xa0b0c0d0,            // 6, a table
			w(api.Li, 2, 0, 0), 3, // 7
			w(api.Jmp, 0, 0, 0), 0, // 9
			w(api.Br, 0, 0, 255), // 11
			55,                   // 12, a table
		},
		Map: []byte{1, 0, 1, 1, 1, 0, 2, 1, 0, 1, 0, 1, 2},
		DRels: []api.Reloc{
			{At: 0, Kind: api.Word, Sym: 0},
			{At: 2, Kind: api.Word, Sym: 1, Add: -2},
			{At: 3, Kind: api.Word, Sym: 2},
		},
		CRels: []api.Reloc{
			{At: 1, Kind: api.Word, Sym: 1, Add: 65536},
			{At: 2, Kind: api.Branch, Sym: 0},
			{At: 5, Kind: api.Word, Sym: 2},
			{At: 6, Kind: api.Word, Sym: 1, Add: -65536},
			{At: 8, Kind: api.Word, Sym: 0},
			{At: 10, Kind: api.Word, Sym: 0},
			{At: 11, Kind: api.Branch, Sym: 2},
		},
		Syms: []api.Sym{
			{Name: "main", In: api.InCode, Value: 3, Global: true},
			{Name: "d", In: api.InData, Value: 2},
			{Name: "far", In: api.Absent, Global: true},
		},
	}
}

// code is an object of code alone, whose Map is that of these digits.
func code(digits string, words ...uint32) api.Object {
	o := api.Object{Code: words}
	for _, d := range []byte(digits) {
		o.Map = append(o.Map, d-'0')
	}
	return o
}

// changed is full, but for what is done to it.
func changed(do func(o *api.Object)) api.Object {
	o := full()
	do(&o)
	return o
}

// checkError holds an error against the one that it has to be: a sentinel itself, or an At just around it.
func checkError(t *testing.T, what string, err error, pos int, want error) {
	t.Helper()
	got, at := err, alone
	if e, is := err.(*api.At); is {
		got, at = e.Err, e.Pos
	}
	if got != want || at != pos {
		t.Errorf("%s: error %v, want %v at %d", what, err, want, pos)
	}
}

// checkValid holds what Valid says of an object, and Bytes with it; and that it changes nothing of the object.
func checkValid(t *testing.T, what string, o api.Object, pos int, want error) {
	t.Helper()
	was := copied(o)
	checkError(t, what+": Valid", obj.Valid(o), pos, want)
	b, err := obj.Bytes(o)
	checkError(t, what+": Bytes", err, pos, want)
	if (len(b) > 0) != (want == nil) {
		t.Errorf("%s: %d bytes beside the error %v", what, len(b), err)
	}
	checkObject(t, what+": what was handed in", o, was)
}

// checkTaken holds that an object is valid.
func checkTaken(t *testing.T, what string, o api.Object) {
	t.Helper()
	checkValid(t, what, o, alone, nil)
}

// checkObject holds an object against what it has to be.
func checkObject(t *testing.T, what string, got, want api.Object) {
	t.Helper()
	if !equal(got, want) {
		t.Errorf("%s: %v, want %v", what, got, want)
	}
}

// copied is a copy of an object, by nothing of the package.
func copied(o api.Object) api.Object {
	return api.Object{
		Data: append([]uint32{}, o.Data...), Code: append([]uint32{}, o.Code...), Map: append([]byte{}, o.Map...),
		DRels: append([]api.Reloc{}, o.DRels...), CRels: append([]api.Reloc{}, o.CRels...), Syms: append([]api.Sym{}, o.Syms...),
	}
}

// equal is Same, by nothing of the package.
func equal(a, b api.Object) bool {
	return slices.Equal(a.Data, b.Data) && slices.Equal(a.Code, b.Code) && string(a.Map) == string(b.Map) &&
		slices.Equal(a.DRels, b.DRels) && slices.Equal(a.CRels, b.CRels) && slices.Equal(a.Syms, b.Syms)
}

// name is a name of so many bytes, another one for each k.
func name(k, length int) string {
	s := string([]byte{byte(k), byte(k >> 8)})
	return s + strings.Repeat("x", length-len(s))
}
