package mem_test

import (
	"math"
	"slices"
	"testing"

	"facade/api"
	"facade/mem"
)

// farNumbers are neither frames nor words of any memory, though some are when they are cut, divided or multiplied.
func farNumbers() []int {
	return []int{-1, -2, -15, -16, -17, -32, -1 << 31, -1 << 32, -1 << 60, math.MinInt, math.MinInt + 1, api.MaxFrames * api.Page, api.MaxFrames*api.Page + 1, 1 << 31, 1 << 32, 1<<32 + 1, 1 << 60, 1<<60 + 1, math.MaxInt - 1, math.MaxInt}
}

// made is a memory of so many frames.
func made(t *testing.T, frames int) *mem.Mem {
	t.Helper()
	m, err := mem.New(frames)
	if m == nil || err != nil {
		t.Fatalf("New(%d) = %v, %v", frames, m, err)
	}
	return m
}

// numbered is a memory in which each word is one that no other is, and none is 0.
func numbered(t *testing.T, frames int) *mem.Mem {
	t.Helper()
	m := made(t, frames)
	for addr := range frames * api.Page {
		if !m.Write(addr, numberOf(addr)) {
			t.Fatalf("Write(%d) of %d frames is false", addr, frames)
		}
	}
	return m
}

// numberOf is what numbered writes into a word.
func numberOf(addr int) uint32 { return 0xffffffff - uint32(addr) }

// words are all words of a memory, by Read.
func words(t *testing.T, m *mem.Mem) []uint32 {
	t.Helper()
	var l []uint32
	for addr := range m.Frames() * api.Page {
		w, ok := m.Read(addr)
		if !ok {
			t.Fatalf("Read(%d) of %d frames is false", addr, m.Frames())
		}
		l = append(l, w)
	}
	return l
}

// checkWords holds all words of a memory against what they have to be.
func checkWords(t *testing.T, what string, m *mem.Mem, want []uint32) {
	t.Helper()
	if got := words(t, m); !slices.Equal(got, want) {
		t.Errorf("%s: words %v, want %v", what, got, want)
	}
}

// checkFrame holds one frame against what it has to be: first, then 0.
func checkFrame(t *testing.T, m *mem.Mem, f int, first ...uint32) {
	t.Helper()
	want := make([]uint32, api.Page)
	copy(want, first)
	if got, ok := m.Frame(f); !slices.Equal(got, want) || !ok {
		t.Errorf("Frame(%d) = %v, %v, want %v", f, got, ok, want)
	}
}

// checkDiffer holds Differ, either way round, against the frames that have to differ.
func checkDiffer(t *testing.T, a, b *mem.Mem, want ...int) {
	t.Helper()
	if got := mem.Differ(a, b); !slices.Equal(got, want) {
		t.Errorf("Differ(a, b) = %v, want %v", got, want)
	}
	if got := mem.Differ(b, a); !slices.Equal(got, want) {
		t.Errorf("Differ(b, a) = %v, want %v", got, want)
	}
}

// P2.1: a memory has as many frames as were asked for, all of their words 0, and none beyond.
func TestNew(t *testing.T) {
	for _, frames := range []int{1, 2, 3, 16, 17, 255, 256, 1023, api.MaxFrames} {
		m := made(t, frames)
		if got := m.Frames(); got != frames {
			t.Errorf("New(%d) has %d frames", frames, got)
		}
		checkWords(t, "a new one", m, make([]uint32, frames*api.Page))
		checkFrame(t, m, 0)
		checkFrame(t, m, frames-1)
	}
}

// P2.1: there is no memory of fewer frames than one, or of more than MaxFrames.
func TestNewOutOfRange(t *testing.T) {
	for _, frames := range append(farNumbers(), 0, api.MaxFrames+1, api.MaxFrames+2, 1<<32+3) {
		if m, err := mem.New(frames); m != nil || err != api.ErrRange {
			t.Errorf("New(%d) = %v, %v", frames, m, err)
		}
	}
}

// P2.1: each memory is one of its own.
func TestNewApart(t *testing.T) {
	a, b := made(t, 2), made(t, 2)
	a.Write(0, 1)
	a.Fill(1, 2)
	checkWords(t, "the other one", b, make([]uint32, 2*api.Page))
	checkWords(t, "a later one", made(t, 2), make([]uint32, 2*api.Page))
}

// P2.1: a word is what was written into it at last, and no other word is.
func TestReadWrite(t *testing.T) {
	for _, frames := range []int{1, 3, api.MaxFrames} {
		m := numbered(t, frames)
		for addr := range frames * api.Page {
			if w, ok := m.Read(addr); w != numberOf(addr) || !ok {
				t.Fatalf("Read(%d) of %d frames = %#x, %v", addr, frames, w, ok)
			}
		}
	}
	m := numbered(t, 3)
	for _, addr := range []int{0, 1, 15, 16, 17, 31, 32, 47} {
		for _, w := range []uint32{5, math.MaxUint32, 1 << 31, 0} {
			want := words(t, m)
			want[addr] = w
			if !m.Write(addr, w) {
				t.Errorf("Write(%d) is false", addr)
			}
			checkWords(t, "a word written", m, want)
		}
	}
}

// P2.1: word addr is of frame addr/16, in the order of the addresses.
func TestWordsOfFrames(t *testing.T) {
	m := numbered(t, 3)
	for f := range 3 {
		l, ok := m.Frame(f)
		if len(l) != api.Page || !ok {
			t.Fatalf("Frame(%d) = %v, %v", f, l, ok)
		}
		for k, w := range l {
			if w != numberOf(f*api.Page+k) {
				t.Errorf("word %d of frame %d is %#x", k, f, w)
			}
		}
	}
}

// P2.1: a word that is none is neither read nor written.
func TestReadWriteNone(t *testing.T) {
	for _, frames := range []int{1, 3, api.MaxFrames} {
		m := numbered(t, frames)
		want := words(t, m)
		for _, addr := range append(farNumbers(), frames*api.Page, frames*api.Page+1, (frames+1)*api.Page) {
			if w, ok := m.Read(addr); w != 0 || ok {
				t.Errorf("Read(%d) of %d frames = %#x, %v", addr, frames, w, ok)
			}
			if m.Write(addr, 77) {
				t.Errorf("Write(%d) of %d frames is true", addr, frames)
			}
		}
		if !slices.Equal(words(t, m), want) || m.Frames() != frames {
			t.Errorf("of %d frames: a word that is none was written somewhere", frames)
		}
	}
}

// P2.1: the first frame and the last are there; those beyond and below are not.
func TestFrame(t *testing.T) {
	for _, frames := range []int{1, 3, api.MaxFrames} {
		m := made(t, frames)
		m.Fill(0, 1, 2, 3)
		m.Fill(frames-1, 4, 5)
		checkFrame(t, m, frames-1, 4, 5)
		if frames > 1 {
			checkFrame(t, m, 0, 1, 2, 3)
		}
		for _, f := range append(farNumbers(), frames, frames+1, frames*api.Page) {
			if l, ok := m.Frame(f); len(l) != 0 || ok {
				t.Errorf("Frame(%d) of %d frames = %v, %v", f, frames, l, ok)
			}
		}
	}
}

// P2.1, P0.4: a frame that is handed out is nobody's, its spare room too.
func TestFrameIsNobodys(t *testing.T) {
	m := numbered(t, 2)
	want := words(t, m)
	a, _ := m.Frame(0)
	b, _ := m.Frame(0)
	for k := range a {
		a[k] = 77
	}
	a = append(a, 78)
	a = append(a[:3], 79)
	_ = append(a[:api.Page:cap(a)], 80)
	checkWords(t, "written into what was handed out", m, want)
	if !slices.Equal(b, want[:api.Page]) {
		t.Error("another one handed out shows it:", b)
	}
	b = append(b, 81)
	c, _ := m.Frame(0)
	if spare := c[:cap(c)]; !slices.Equal(spare[:api.Page], want[:api.Page]) || slices.Contains(spare, 81) {
		t.Error("a later one handed out shows it:", spare)
	}
	m.Write(0, 1)
	m.Fill(0, 2)
	if !slices.Equal(b[:api.Page], want[:api.Page]) || !slices.Equal(c, want[:api.Page]) {
		t.Error("what was handed out changes with the memory:", b, c)
	}
}

// P2.1: the first words are those handed in, the rest 0, for each count up to 16; other frames stay.
func TestFill(t *testing.T) {
	for _, frames := range []int{1, 3, api.MaxFrames} {
		for _, f := range []int{0, frames / 2, frames - 1} {
			for count := range api.Page + 1 {
				checkFill(t, frames, f, count)
			}
		}
	}
}

// checkFill fills one frame of a memory of other words with so many words.
func checkFill(t *testing.T, frames, f, count int) {
	t.Helper()
	m := numbered(t, frames)
	want := words(t, m)
	clear(want[f*api.Page : (f+1)*api.Page])
	l := make([]uint32, count)
	for k := range l {
		l[k] = uint32(k) + 1000
	}
	copy(want[f*api.Page:], l)
	if !m.Fill(f, l...) {
		t.Errorf("Fill(%d) of %d frames with %d words is false", f, frames, count)
	}
	if !slices.Equal(words(t, m), want) {
		t.Errorf("Fill(%d) of %d frames with %d words: not what it has to be", f, frames, count)
	}
}

// P2.1, Ways: Fill is variadic: words one by one, none, nil, an empty list.
func TestFillVariadic(t *testing.T) {
	m := made(t, 1)
	if !m.Fill(0, 7, 8, math.MaxUint32) {
		t.Error("of three words")
	}
	checkFrame(t, m, 0, 7, 8, math.MaxUint32)
	for _, fill := range []func() bool{
		func() bool { return m.Fill(0) },
		func() bool { return m.Fill(0, nil...) },
		func() bool { return m.Fill(0, []uint32{}...) },
	} {
		m.Fill(0, 7, 8, 9)
		if !fill() {
			t.Error("of no words")
		}
		checkFrame(t, m, 0)
	}
}

// P2.1: no such frame, or more than 16 words: false, and nothing is changed.
func TestFillNone(t *testing.T) {
	for _, frames := range []int{1, 3, api.MaxFrames} {
		m := numbered(t, frames)
		want := words(t, m)
		for _, f := range append(farNumbers(), frames, frames+1, frames*api.Page) {
			for _, count := range []int{0, 1, api.Page, api.Page + 1} {
				if m.Fill(f, make([]uint32, count)...) {
					t.Errorf("Fill(%d) of %d frames with %d words is true", f, frames, count)
				}
			}
		}
		for _, f := range []int{0, frames - 1} {
			for _, count := range []int{17, 18, 32, 33, 1 << 16} {
				if m.Fill(f, make([]uint32, count)...) {
					t.Errorf("Fill(%d) of %d frames with %d words is true", f, frames, count)
				}
			}
		}
		if !slices.Equal(words(t, m), want) || m.Frames() != frames {
			t.Errorf("of %d frames: a Fill that is refused changed something", frames)
		}
	}
}

// P2.1, P0.4: what is handed in is neither changed nor kept; what lies behind its length is neither read nor written.
func TestFillHandedIn(t *testing.T) {
	m := made(t, 2)
	room := []uint32{1, 2, 3, 4, 5, 6}
	m.Fill(1, room[:2]...)
	checkFrame(t, m, 1, 1, 2)
	m.Write(api.Page, 70)
	m.Write(api.Page+2, 71)
	if !slices.Equal(room, []uint32{1, 2, 3, 4, 5, 6}) {
		t.Error("what was handed in is changed:", room)
	}
	room[0], room[2] = 80, 81
	checkFrame(t, m, 1, 70, 2, 71)
	whole := make([]uint32, api.Page, 2*api.Page)
	m.Fill(0, whole...)
	whole[0], whole[15] = 1, 1
	m.Write(1, 9)
	checkFrame(t, m, 0, 0, 9)
	if whole[1] != 0 {
		t.Error("a whole frame that was handed in is changed:", whole)
	}
}

// P2.1: a copy is alike, and goes its own way, as does the one it is of.
func TestClone(t *testing.T) {
	for _, frames := range []int{1, 3, api.MaxFrames} {
		m := numbered(t, frames)
		want := words(t, m)
		c := m.Clone()
		if c == m || c.Frames() != frames || !slices.Equal(words(t, c), want) {
			t.Fatalf("the copy of %d frames is not alike", frames)
		}
		checkDiffer(t, m, c)
		last := frames*api.Page - 1
		if !c.Write(last, 5) || c.Write(last+1, 5) || !c.Fill(0, 6) || c.Fill(frames, 6) {
			t.Errorf("the copy of %d frames takes other words than those", frames)
		}
		if !slices.Equal(words(t, m), want) {
			t.Errorf("of %d frames: what the copy is of changed with it", frames)
		}
		of := words(t, c)
		d := c.Clone()
		if !m.Write(last, 7) || !m.Fill(0) || !d.Fill(0, 8) {
			t.Errorf("what the copy of %d frames is of can't be written", frames)
		}
		if !slices.Equal(words(t, c), of) {
			t.Errorf("of %d frames: the copy changed with another one", frames)
		}
	}
}

// P2.1: a new memory's copy is all 0.
func TestCloneOfNew(t *testing.T) {
	c := made(t, 2).Clone()
	checkWords(t, "the copy", c, make([]uint32, 2*api.Page))
}

// P2.1: frames in which they differ, rising, by whichever word it is, and whatever it is.
func TestDiffer(t *testing.T) {
	a := numbered(t, 4)
	checkDiffer(t, a, a)
	checkDiffer(t, a, numbered(t, 4))
	for addr := range 4 * api.Page {
		for _, bit := range []uint32{1, 1 << 15, 1 << 31} {
			b := a.Clone()
			b.Write(addr, numberOf(addr)^bit)
			checkDiffer(t, a, b, addr/api.Page)
			b.Write(addr, numberOf(addr))
			checkDiffer(t, a, b)
		}
	}
	b := a.Clone()
	b.Write(63, 0)
	b.Write(32, 0)
	b.Write(33, 0)
	b.Write(0, 0)
	checkDiffer(t, a, b, 0, 2, 3)
	b.Fill(1)
	checkDiffer(t, a, b, 0, 1, 2, 3)
}

// P2.1: words are held against those at their own places.
func TestDifferByPlace(t *testing.T) {
	a, b := made(t, 3), made(t, 3)
	a.Fill(0, 1, 2)
	b.Fill(0, 2, 1)
	a.Fill(1, 5)
	b.Fill(2, 5)
	checkDiffer(t, a, b, 0, 1, 2)
}

// P2.1: a frame that only one of them has differs, though all of its words are 0.
func TestDifferInLength(t *testing.T) {
	a, b := made(t, 2), made(t, 5)
	checkDiffer(t, a, b, 2, 3, 4)
	b.Fill(0, 1)
	b.Fill(3, 1)
	checkDiffer(t, a, b, 0, 2, 3, 4)
	checkDiffer(t, made(t, 1), made(t, 2), 1)
	var want []int
	for f := 1; f < api.MaxFrames; f++ {
		want = append(want, f)
	}
	checkDiffer(t, made(t, 1), made(t, api.MaxFrames), want...)
}

// P2.1, P0.4: Differ changes neither memory, and the list that it hands out is nobody's.
func TestDifferIsNobodys(t *testing.T) {
	a, b := numbered(t, 2), made(t, 5)
	wantA, wantB := words(t, a), words(t, b)
	first := mem.Differ(a, b)
	second := mem.Differ(a, b)
	for k := range first {
		first[k] = -7
	}
	_ = append(first, -8)
	if want := []int{0, 1, 2, 3, 4}; !slices.Equal(second, want) || !slices.Equal(mem.Differ(a, b), want) {
		t.Error("another list shows what was written into one:", second)
	}
	if slices.Contains(second[:cap(second)], -8) {
		t.Error("another list's spare room shows what was appended to one")
	}
	checkWords(t, "the first", a, wantA)
	checkWords(t, "the second", b, wantB)
}
