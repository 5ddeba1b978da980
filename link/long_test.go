package link_test

import (
	"slices"
	"strconv"
	"testing"

	"facade/api"
	"facade/isa"
	"facade/link"
)

// instruction is that of a word, if it has one word and may stand in an object.
func instruction(word uint32) (api.Instr, bool) {
	in, is := isa.Of(word, 0)
	return in, is && !isa.Tables().Two(in.Op)
}

// repaired tells whether an instruction of one word has to be repaired.
func repaired(op int) bool { return op == api.Br || op == api.Brz || op == api.Brn }

// branches are the branches, with something in C, and what they are where they are long.
func branches() map[uint32]uint32 {
	return map[uint32]uint32{
		w(api.Br, 0, 0, 77):    w(api.Jmp, 0, 0, 0),
		w(api.Brz, 9, 0, 255):  w(api.Jz, 9, 0, 0),
		w(api.Brz, 0, 0, 1):    w(api.Jz, 0, 0, 0),
		w(api.Brn, 15, 0, 128): w(api.Jn, 15, 0, 0),
	}
}

// P13.2: C of a branch that is short, ahead and back, within an object.
func TestP13_2Short(t *testing.T) {
	for word := range branches() {
		for _, distance := range []int{0, 1, 2, 126, 127} {
			s := start().nops(3).branch(word, "to")
			if distance > 0 {
				s.nops(distance - 1)
			}
			checkShort(t, s.put("to", api.InCode, 3+distance, false).nops(1), 3, distance)
		}
		for _, distance := range []int{1, 2, 127, 128} {
			checkShort(t, start().nops(1).own("to").nops(distance).branch(word, "to"), 1+distance, -distance)
		}
	}
}

// checkShort holds that a branch of an object, the only one, is short and goes so far, and that nothing else is changed.
func checkShort(t *testing.T, s *source, at, distance int) {
	t.Helper()
	want := api.Image{Entry: 2048, Code: slices.Clone(s.Code)}
	want.Code[at] = want.Code[at]&^255 | uint32(byte(distance))
	for k := range want.Code {
		want.Starts = append(want.Starts, k)
	}
	checkLink(t, "a branch to "+strconv.Itoa(distance), want, s)
	if got := isa.Disp(int(want.Code[at] & 255)); got != distance {
		t.Errorf("it goes %d, not %d", got, distance)
	}
}

// P13.2: what is long within an object: 128 ahead and 129 back, and more.
func TestP13_2Long(t *testing.T) {
	for word, long := range branches() {
		for _, distance := range []int{128, 129, 130, 300, 2000} {
			s := start().nops(3).branch(word, "to").nops(distance - 1).own("to").nops(2)
			checkLong(t, "ahead "+strconv.Itoa(distance), s, 3, long, uint32(2048+3+distance+1))
		}
		for _, distance := range []int{129, 130, 300, 2000} {
			s := start().nops(3).own("to").nops(distance).branch(word, "to").nops(2)
			checkLong(t, "back "+strconv.Itoa(distance), s, 3+distance, long, 2048+3)
		}
	}
}

// checkLong holds that a branch of an object, the only one, is long: that word and that address, and that nothing else
// is changed.
func checkLong(t *testing.T, what string, s *source, at int, long, address uint32) {
	t.Helper()
	want := api.Image{Entry: 2048, Places: []int{at + 1}}
	want.Code = slices.Insert(slices.Clone(s.Code), at+1, address)
	want.Code[at] = long
	for k := range want.Code {
		if k != at+1 {
			want.Starts = append(want.Starts, k)
		}
	}
	checkLink(t, what, want, s)
	if _, is := isa.Of(long, address); !is {
		t.Errorf("%s: what is long is no instruction", what)
	}
}

// P13.2: short and long branches between objects: the distance is that of all Code.
func TestP13_2Between(t *testing.T) {
	for word, long := range branches() {
		for _, distance := range []int{1, 100, 127, 128, 129} {
			a, b := start().branch(word, "to").nops(60), new(source).nops(distance)
			b.put("to", api.InCode, max(distance-61, 0), true)
			if distance < 61 {
				a = start().branch(word, "to").nops(distance - 1)
			}
			i := linked(t, a, b)
			if distance <= 127 {
				if i.Code[0] != word&^255|uint32(distance) || len(i.Code) != len(a.Code)+len(b.Code) || len(i.Places) > 0 {
					t.Errorf("ahead %d: 0x%x, %v", distance, i.Code[0], i.Places)
				}
			} else if i.Code[0] != long || i.Code[1] != uint32(2049+distance) || !slices.Equal(i.Places, []int{1}) || i.Starts[1] != 2 {
				t.Errorf("ahead %d: 0x%x 0x%x, %v", distance, i.Code[0], i.Code[1], i.Places)
			}
		}
		for _, distance := range []int{1, 100, 128, 129, 130} {
			a := new(source).nops(5).label("to").nops(distance)
			b := new(source).branch(word, "to").label("main").nops(1)
			i, at := linked(t, a, b), 5+distance
			if distance <= 128 {
				if i.Code[at] != word&^255|uint32(byte(-distance)) || i.Entry != uint32(2048+at+1) || len(i.Places) > 0 {
					t.Errorf("back %d: 0x%x, %v", distance, i.Code[at], i.Places)
				}
			} else if i.Code[at] != long || i.Code[at+1] != 2053 || i.Entry != uint32(2048+at+2) || !slices.Equal(i.Places, []int{at + 1}) {
				t.Errorf("back %d: 0x%x 0x%x, %v", distance, i.Code[at], i.Code[at+1], i.Places)
			}
		}
	}
}

// P13.2: what becomes long makes others so, and moves all that stands behind it: symbols, second words, tables, data's
// words.
func TestP13_2Rounds(t *testing.T) {
	a := start().ref(0, "end", 0).ref(0, "mid", 0).ref(0, "main", 0)
	a.branch(w(api.Br, 0, 0, 0), "mid").nops(1).branch(w(api.Brz, 1, 0, 0), "end").nops(125).label("mid").far(w(api.La, 2, 0, 0), 0, "end", 0)
	b := new(source).entry(0, "mid", 0).entry(0, "end", 0).label("end").branch(w(api.Brn, 3, 0, 0), "main").far(w(api.Jmp, 0, 0, 0), 0, "end", 0)
	// as they stand br goes 128 and brz 130; brn goes 132 back
	want := api.Image{
		Entry:    2048,
		Data:     []uint32{2048 + 134, 2048 + 130, 2048},
		Code:     []uint32{w(api.Jmp, 0, 0, 0), 2178, w(api.Nop, 0, 0, 0), w(api.Jz, 1, 0, 0), 2182},
		DataRefs: []int{0, 1, 2},
		Places:   []int{1, 4, 131, 132, 133, 135, 137},
		Starts:   []int{0, 2, 3},
	}
	for k := range 125 {
		want.Starts = append(want.Starts, 5+k)
		want.Code = append(want.Code, w(api.Nop, 0, 0, 0))
	}
	want.Starts = append(want.Starts, 130, 134, 136)
	want.Code = append(want.Code, w(api.La, 2, 0, 0), 2182, 2178, 2182, w(api.Jn, 3, 0, 0), 2048, w(api.Jmp, 0, 0, 0), 2182)
	checkLink(t, "all long", want, a, b)

	// br goes 127 till brz is long
	c := start().branch(w(api.Br, 0, 0, 0), "near").branch(w(api.Brz, 1, 0, 0), "far").nops(125).own("near").nops(3).own("far").nops(1)
	i := linked(t, c)
	if i.Code[0] != w(api.Jmp, 0, 0, 0) || i.Code[1] != 2048+129 || i.Code[2] != w(api.Jz, 1, 0, 0) || i.Code[3] != 2048+132 || len(i.Code) != 133 {
		t.Errorf("one by the other: %v", i.Code[:4])
	}
}

// P13.2: items of two words count as two where a branch is measured.
func TestP13_2Measure(t *testing.T) {
	for _, x := range []struct {
		what  string
		twos  int
		ones  int
		place bool
	}{{"127", 60, 6, false}, {"128", 60, 7, true}, {"127, words of a table", 0, 126, false}, {"128, words of a table", 0, 127, true}} {
		s := start().branch(w(api.Br, 0, 0, 0), "to")
		for range x.twos {
			s.two(w(api.Li, 1, 0, 0), 0)
		}
		if x.twos > 0 {
			s.nops(x.ones)
		} else {
			s.table(make([]uint32, x.ones)...)
		}
		if i := linked(t, s.own("to").nops(1)); (len(i.Places) == 1) != x.place || (i.Code[0] == w(api.Jmp, 0, 0, 0)) != x.place {
			t.Errorf("%s: 0x%x, %v", x.what, i.Code[0], i.Places)
		}
	}
}

// P13.2: a branch to itself, and to what Link has laid at the very end.
func TestP13_2Ends(t *testing.T) {
	checkLink(t, "to itself", api.Image{Entry: 2048, Code: []uint32{w(api.Brn, 5, 0, 0)}, Starts: []int{0}}, start().branch(w(api.Brn, 5, 0, 200), "main"))
	s := start().branch(w(api.Br, 0, 0, 0), "end").nops(2045).own("end").nops(1)
	i := linked(t, s)
	if len(i.Code) != 2048 || i.Code[1] != 4095 {
		t.Errorf("to the last word: %d words, to %d", len(i.Code), i.Code[1])
	}
	if at, err := link.Where(objects(s.put("end", api.InCode, 2046, true)), "end"); at != 4095 || err != nil {
		t.Errorf("the last word is at %d, %v", at, err)
	}
}
