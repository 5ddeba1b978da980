package obj_test

import (
	"bytes"
	"encoding/binary"
	"math"
	"slices"
	"testing"

	"facade/api"
	"facade/obj"
)

// put is full's bytes, but that the word at a byte is x.
func put(at int, x uint32) []byte {
	b := fullBytes()
	binary.LittleEndian.PutUint32(b[at:], x)
	return b
}

// checkRead holds the error of Read, that there is no object beside it, and that the bytes stay.
func checkRead(t *testing.T, what string, b []byte, pos int, want error) {
	t.Helper()
	was := slices.Clone(b)
	o, err := obj.Read(b)
	checkError(t, what+": Read", err, pos, want)
	if err != nil {
		checkObject(t, what+": beside an error", o, api.Object{})
	}
	if !bytes.Equal(b, was) {
		t.Errorf("%s: the bytes were changed", what)
	}
}

// mustRead is the object that these bytes are.
func mustRead(t *testing.T, b []byte) api.Object {
	t.Helper()
	o, err := obj.Read(b)
	if err != nil {
		t.Fatalf("Read: %v", err)
	}
	return o
}

// P9.2: bytes as the chapter has them are the object.
func TestP9_2Read(t *testing.T) {
	checkObject(t, "Read", mustRead(t, fullBytes()), full())
	checkObject(t, "Read", mustRead(t, append([]byte("PV32"), make([]byte, 20)...)), api.Object{})
}

// P9.2: each shorter piece of an object's bytes is ErrEnd; one byte more is ErrShape.
func TestP9_2Pieces(t *testing.T) {
	for _, o := range []api.Object{{}, full(), sized(3, 0, 0, 0, 0), sized(0, 3, 0, 0, 0), sized(2, 0, 2, 0, 1), sized(0, 2, 0, 2, 2)} {
		b := mustBytes(t, o)
		for n := range b {
			checkRead(t, "a piece", b[:n], alone, api.ErrEnd)
			checkRead(t, "a piece, by itself", slices.Clone(b[:n]), alone, api.ErrEnd)
		}
		for _, more := range [][]byte{{0}, {1}, {255}, make([]byte, 16), make([]byte, 70000)} {
			checkRead(t, "more bytes", append(slices.Clone(b), more...), alone, api.ErrShape)
		}
	}
	checkRead(t, "nothing", nil, alone, api.ErrEnd)
	checkRead(t, "an empty list", []byte{}, alone, api.ErrEnd)
}

// P9.2: another Magic is ErrShape, but where there are less than 24 bytes.
func TestP9_2Magic(t *testing.T) {
	for k := range 4 {
		for _, x := range []byte{0, 1, 0x31, 0x34, 255} {
			b := fullBytes()
			b[k] = x
			checkRead(t, "another Magic", b, alone, api.ErrShape)
			checkRead(t, "another Magic, 24 bytes", b[:24], alone, api.ErrShape)
			checkRead(t, "another Magic, 23 bytes", b[:23], alone, api.ErrEnd)
		}
	}
	checkRead(t, "Magic the other way round", put(0, 0x50563332), alone, api.ErrShape)
	checkRead(t, "24 times 0", make([]byte, 24), alone, api.ErrShape)
}

// P9.2: each of the five numbers above its limit is ErrMany, whatever comes; Magic is asked first.
func TestP9_2Many(t *testing.T) {
	for k, most := range []uint32{2048, 2048, 1024, 1024, 256} {
		at := atSizes + 4*k
		for _, x := range []uint32{most + 1, most + 2, 1 << 16, 1 << 31, 1<<31 + 1, math.MaxUint32} {
			checkRead(t, "above its limit", put(at, x), alone, api.ErrMany)
			checkRead(t, "above its limit, and no more bytes", put(at, x)[:24], alone, api.ErrMany)
			checkRead(t, "above its limit, but it is short", put(at, x)[:23], alone, api.ErrEnd)
			b := put(at, x)
			b[3]++
			checkRead(t, "above its limit, and another Magic", b, alone, api.ErrShape)
		}
		checkRead(t, "at its limit, and too few bytes", put(at, most)[:24], alone, api.ErrEnd)
	}
	o := sized(2048, 2048, 1024, 1024, 256)
	checkObject(t, "all at their limits", mustRead(t, mustBytes(t, o)), o)
	five := append([]byte("PV32"), 0, 8, 0, 0, 0, 8, 0, 0, 0, 4, 0, 0, 0, 4, 0, 0, 0, 1, 0, 0)
	checkRead(t, "all at their limits, and no more", five, alone, api.ErrEnd)
}

// P9.2: a number of a relocation or a symbol above 2^31 - 1 is ErrRange, without a place; at 2^31 - 1 it is Valid's.
func TestP9_2Numbers(t *testing.T) {
	check := func(what string, at, k int, valid error) {
		t.Helper()
		for _, x := range []uint32{1 << 31, 1<<31 + 1, math.MaxUint32} {
			checkRead(t, what, put(at, x), alone, api.ErrRange)
			checkRead(t, what+", and more bytes", append(put(at, x), 0), alone, api.ErrRange)
		}
		checkRead(t, what+" at the bound", put(at, math.MaxInt32), k, valid)
	}
	for k := range 3 {
		at := atDRels + 16*k
		check("At of Data", at, k, api.ErrRange)
		check("Kind of Data", at+4, k, api.ErrRange)
		check("Sym of Data", at+8, k, api.ErrRange)
	}
	for k := range 7 {
		at := atCRels + 16*k
		check("At of Code", at, k, api.ErrRange)
		check("Kind of Code", at+4, k, api.ErrRange)
		check("Sym of Code", at+8, k, api.ErrRange)
	}
	for k, at := range []int{atSyms, atSyms + 20, atSyms + 37} {
		check("In", at, k, api.ErrRange)
		check("Value", at+4, k, api.ErrRange)
	}
}

// P9.2: Add is a number with a sign, so each word is one; whether it may be is for Valid.
func TestP9_2Add(t *testing.T) {
	for _, x := range []int32{-65536, -65535, -2, -1, 0, 1, 65535, 65536} {
		o := changed(func(o *api.Object) { o.DRels[1].Add = int(x) })
		checkObject(t, "Add of Data", mustRead(t, put(atDRels+16+12, uint32(x))), o)
		o = changed(func(o *api.Object) { o.CRels[3].Add = int(x) })
		checkObject(t, "Add of Code", mustRead(t, put(atCRels+48+12, uint32(x))), o)
	}
	for _, x := range []uint32{65537, 1<<31 - 1, 1 << 31, 1<<31 + 1, uint32(1<<32 - 65537)} {
		checkRead(t, "Add of Data", put(atDRels+16+12, x), 1, api.ErrRange)
		checkRead(t, "Add of Code", put(atCRels+12, x), 0, api.ErrRange)
	}
}

// P9.2: Global is 0 or 1, a Name's length at most 32; else it is ErrRange, without a place.
func TestP9_2SymbolWords(t *testing.T) {
	for _, at := range []int{atSyms, atSyms + 20, atSyms + 37} {
		for _, x := range []uint32{2, 3, 256, 257, 1 << 16, 1<<31 - 1, 1 << 31, 1<<31 + 1, math.MaxUint32} {
			checkRead(t, "Global", put(at+8, x), alone, api.ErrRange)
		}
		for _, x := range []uint32{33, 34, 255, 256, 257, 1 << 16, 1<<31 - 1, 1 << 31, math.MaxUint32} {
			checkRead(t, "a Name's length", put(at+12, x), alone, api.ErrRange)
			checkRead(t, "a Name's length, and bytes enough", append(put(at+12, x), make([]byte, 80000)...), alone, api.ErrRange)
		}
	}
	checkRead(t, "a Name's length of 32, and too few bytes", put(atSyms+37+12, 32), alone, api.ErrEnd)
	o := mustRead(t, append(put(atSyms+37+12, 32), make([]byte, 29)...))
	if want := "far" + string(make([]byte, 29)); o.Syms[2].Name != want {
		t.Errorf("a name of 32 bytes is read as %q", o.Syms[2].Name)
	}
	for _, global := range []uint32{0, 1} {
		if o := mustRead(t, put(atSyms+8, global)); o.Syms[0].Global != (global == 1) {
			t.Errorf("Global %d is read as %v", global, o.Syms[0].Global)
		}
	}
}

// P9.2: part by part, as they stand: a number that may not be is told ahead of the end behind it, and the end ahead
// of a number that would come behind; bytes that are left come behind both, and Valid's errors behind all.
func TestP9_2Order(t *testing.T) {
	for _, at := range []int{atDRels, atDRels + 4, atDRels + 8, atCRels, atSyms, atSyms + 4, atSyms + 8, atSyms + 12} {
		b := put(at, 1<<31)
		for n := 24; n < at+4; n++ {
			checkRead(t, "it ends ahead of a number, or in it", b[:n], alone, api.ErrEnd)
		}
		for n := at + 4; n <= len(b); n++ {
			checkRead(t, "it ends behind a number", b[:n], alone, api.ErrRange)
		}
	}
	bad := put(atCode, 0)
	checkRead(t, "bytes are left, and it isn't valid", append(bad, 0), alone, api.ErrShape)
	checkRead(t, "it is too short, and it isn't valid", bad[:len(bad)-1], alone, api.ErrEnd)
	checkRead(t, "it isn't valid", bad, 0, api.ErrOp)
}

// P9.2: Valid's errors, of bytes of which nothing else is wrong.
func TestP9_2ReadValid(t *testing.T) {
	empty := append([]byte("PV32"), make([]byte, 16)...)
	empty = append(empty, 1, 0, 0, 0, 1, 0, 0, 0, 0, 0, 0, 0, 0, 0, 0, 0, 0, 0, 0, 0)
	checkRead(t, "a name of no bytes", empty, 0, api.ErrRange)
	for _, x := range []struct {
		what  string
		at    int
		bytes string
		pos   int
		err   error
	}{
		{"no instruction", atCode + 12, "\x00\x00\x00\x00", 3, api.ErrOp},
		{"a call of the monitor", atCode, "\x00\x00\x00\x60", 0, api.ErrOp},
		{"Map 3", atMap + 6, "\x03", 6, api.ErrMap},
		{"Map 255", atMap + 12, "\xff", 12, api.ErrMap},
		{"Map 2 for a second word", atMap + 1, "\x02", 0, api.ErrMap},
		{"In 0", atSyms, "\x00", 0, api.ErrRange},
		{"In 4", atSyms, "\x04", 0, api.ErrRange},
		{"Value", atSyms + 4, "\x01", 0, api.ErrRange},
		{"Absent, not Global", atSyms + 37 + 8, "\x00", 2, api.ErrRange},
		{"a relocation of Data's Kind", atDRels + 4, "\x02", 0, api.ErrRange},
		{"its Add", atDRels + 12, "\x01", 0, api.ErrShape},
		{"a relocation of Code's Kind", atCRels + 4, "\x02", 0, api.ErrShape},
		{"its At", atCRels + 16, "\x03", 1, api.ErrShape},
		{"its Sym", atCRels + 32 + 8, "\x01", 2, api.ErrShape},
		{"a branch that lacks", atCode + 12, "\x00\x00\x00\x10", 3, api.ErrNone},
	} {
		b := fullBytes()
		copy(b[x.at:], x.bytes)
		checkRead(t, x.what, b, x.pos, x.err)
	}
	twice := full()
	twice.Syms[0].Name = "fur"
	b := mustBytes(t, twice)
	copy(b[atSyms+16:], "far")
	checkRead(t, "a name twice", b, 2, api.ErrTwice)
}

// P9.2: Read keeps nothing of the bytes, neither what lies behind them; what it answers is new memory.
func TestP9_2ReadKeepsNothing(t *testing.T) {
	room := append(fullBytes(), 1, 2, 3)
	b := room[:atEnd]
	o, p := mustRead(t, b), mustRead(t, b)
	for k := range room {
		room[k] = 0xee
	}
	checkObject(t, "the bytes were changed", o, full())
	for k := range o.Map[:cap(o.Map)] {
		o.Map[:cap(o.Map)][k] = 9
	}
	o.Data[0], o.Code[0], o.DRels[0].At, o.CRels[0].At, o.Syms[0].Name = 1, 1, 1, 1, "q"
	o.Data, o.Code, o.Map = append(o.Data, 5), append(o.Code, 5), append(o.Map, 5)
	if slices.ContainsFunc(room, func(x byte) bool { return x != 0xee }) {
		t.Error("what is written into an object is seen in the bytes that it was read from")
	}
	checkObject(t, "another one of the same bytes", p, full())
}
