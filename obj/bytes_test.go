package obj_test

import (
	"bytes"
	"slices"
	"strings"
	"testing"

	"facade/api"
	"facade/obj"
)

// mustBytes are the bytes of an object that is valid.
func mustBytes(t *testing.T, o api.Object) []byte {
	t.Helper()
	b, err := obj.Bytes(o)
	if err != nil {
		t.Fatalf("Bytes: %v", err)
	}
	return b
}

// fullBytes are full's, as the chapter has them.
func fullBytes() []byte {
	return slices.Concat(
		[]byte{0x50, 0x56, 0x33, 0x32, 4, 0, 0, 0, 13, 0, 0, 0, 3, 0, 0, 0, 7, 0, 0, 0, 3, 0, 0, 0},
		[]byte{7, 0, 0, 0, 8, 0, 0, 0, 9, 0, 0, 0, 0xfc, 0xfd, 0xfe, 0xff},
		[]byte{0, 0, 1, 15, 1, 0, 0, 0, 2, 0, 1, 17, 0, 0, 1, 35, 0, 0, 0, 22, 3, 2, 1, 0, 0xd0, 0xc0, 0xb0, 0xa0},
		[]byte{0, 0, 2, 14, 3, 0, 0, 0, 0, 0, 0, 19, 0, 0, 0, 0, 255, 0, 0, 16, 55, 0, 0, 0},
		[]byte{1, 0, 1, 1, 1, 0, 2, 1, 0, 1, 0, 1, 2},
		[]byte{0, 0, 0, 0, 1, 0, 0, 0, 0, 0, 0, 0, 0, 0, 0, 0},
		[]byte{2, 0, 0, 0, 1, 0, 0, 0, 1, 0, 0, 0, 0xfe, 0xff, 0xff, 0xff},
		[]byte{3, 0, 0, 0, 1, 0, 0, 0, 2, 0, 0, 0, 0, 0, 0, 0},
		[]byte{1, 0, 0, 0, 1, 0, 0, 0, 1, 0, 0, 0, 0, 0, 1, 0},
		[]byte{2, 0, 0, 0, 2, 0, 0, 0, 0, 0, 0, 0, 0, 0, 0, 0},
		[]byte{5, 0, 0, 0, 1, 0, 0, 0, 2, 0, 0, 0, 0, 0, 0, 0},
		[]byte{6, 0, 0, 0, 1, 0, 0, 0, 1, 0, 0, 0, 0, 0, 0xff, 0xff},
		[]byte{8, 0, 0, 0, 1, 0, 0, 0, 0, 0, 0, 0, 0, 0, 0, 0},
		[]byte{10, 0, 0, 0, 1, 0, 0, 0, 0, 0, 0, 0, 0, 0, 0, 0},
		[]byte{11, 0, 0, 0, 2, 0, 0, 0, 2, 0, 0, 0, 0, 0, 0, 0},
		[]byte{2, 0, 0, 0, 3, 0, 0, 0, 1, 0, 0, 0, 4, 0, 0, 0}, []byte("main"),
		[]byte{1, 0, 0, 0, 2, 0, 0, 0, 0, 0, 0, 0, 1, 0, 0, 0}, []byte("d"),
		[]byte{3, 0, 0, 0, 0, 0, 0, 0, 1, 0, 0, 0, 3, 0, 0, 0}, []byte("far"),
	)
}

// Where parts of fullBytes begin.
const (
	atSizes = 4
	atData  = 24
	atCode  = atData + 4*4
	atMap   = atCode + 13*4
	atDRels = atMap + 13
	atCRels = atDRels + 3*16
	atSyms  = atCRels + 7*16
	atEnd   = atSyms + 3*16 + 8
)

// P9.2, the chapter's example: an empty object has 24 bytes: Magic and five times 0.
func TestP9_2Empty(t *testing.T) {
	want := append([]byte{0x50, 0x56, 0x33, 0x32}, make([]byte, 20)...)
	for _, o := range []api.Object{{}, copied(api.Object{})} {
		if got := mustBytes(t, o); !bytes.Equal(got, want) {
			t.Errorf("Bytes of an empty object: %v", got)
		}
	}
	if obj.Magic != 0x32335650 {
		t.Errorf("Magic is %x", obj.Magic)
	}
}

// P9.2: Bytes of one with all in it.
func TestP9_2Full(t *testing.T) {
	got, want := mustBytes(t, full()), fullBytes()
	if len(want) != atEnd {
		t.Fatalf("%d bytes are wanted, not %d", len(want), atEnd)
	}
	if !bytes.Equal(got, want) {
		t.Errorf("Bytes:\n%v, want\n%v", got, want)
	}
}

// P9.2: of one with all at its limits, by how long it is, and with a name of 32 bytes.
func TestP9_2Longest(t *testing.T) {
	o := sized(2048, 2048, 1024, 1024, 256)
	for k := range o.Syms {
		o.Syms[k].Name = name(k, 32)
	}
	b := mustBytes(t, o)
	if want := 24 + 4*2048 + 4*2048 + 2048 + 16*1024 + 16*1024 + 48*256; len(b) != want {
		t.Errorf("%d bytes, want %d", len(b), want)
	}
	if want := append([]byte{1, 0, 0, 0, 0, 0, 0, 0, 0, 0, 0, 0, 32, 0, 0, 0}, name(255, 32)...); !bytes.Equal(b[len(b)-48:], want) {
		t.Errorf("the last symbol's bytes: %v", b[len(b)-48:])
	}
}

// P9.2: Valid's error, and no bytes: of each kind of error that it has.
func TestP9_2Refused(t *testing.T) {
	for _, x := range []struct {
		pos int
		err error
		do  func(o *api.Object)
	}{
		{alone, api.ErrMany, func(o *api.Object) { o.Data = make([]uint32, 2049) }},
		{alone, api.ErrMap, func(o *api.Object) { o.Map = nil }},
		{3, api.ErrOp, func(o *api.Object) { o.Code[3] = 0 }},
		{6, api.ErrMap, func(o *api.Object) { o.Map[6] = 3 }},
		{2, api.ErrRange, func(o *api.Object) { o.Syms[2].Name = strings.Repeat("x", 33) }},
		{1, api.ErrTwice, func(o *api.Object) { o.Syms[1].Name = "main" }},
		{2, api.ErrRange, func(o *api.Object) { o.DRels[2].Sym = -1 }},
		{2, api.ErrShape, func(o *api.Object) { o.CRels[2].Sym = 1 }},
		{11, api.ErrNone, func(o *api.Object) { o.CRels = o.CRels[:6] }},
	} {
		b, err := obj.Bytes(changed(x.do))
		checkError(t, "Bytes", err, x.pos, x.err)
		if len(b) != 0 {
			t.Errorf("%d bytes beside %v", len(b), err)
		}
	}
}

// P9.2: the bytes are new memory: none of the object's, and none of other bytes'.
func TestP9_2BytesNew(t *testing.T) {
	o := full()
	a, b := mustBytes(t, o), mustBytes(t, o)
	for k := range a {
		a[k] = 0xaa
	}
	for k := range a[:cap(a)] {
		a[:cap(a)][k] = 0xaa
	}
	if !bytes.Equal(b, fullBytes()) {
		t.Error("what is written into bytes is seen in others")
	}
	checkObject(t, "what is written into bytes", o, full())
}
