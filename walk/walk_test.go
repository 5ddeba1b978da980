package walk_test

import (
	"math"
	"testing"

	"facade/api"
	"facade/mem"
	"facade/walk"
)

// made is a memory of so many frames.
func made(t *testing.T, frames int) *mem.Mem {
	t.Helper()
	m, err := mem.New(frames)
	if m == nil || err != nil {
		t.Fatalf("New(%d) = %v, %v", frames, m, err)
	}
	return m
}

// put makes a word of memory.
func put(t *testing.T, m *mem.Mem, addr int, w uint32) {
	t.Helper()
	if !m.Write(addr, w) {
		t.Fatalf("Write(%d) is false", addr)
	}
}

// plain is the word of an entry that is there, and gives no right.
func plain(frame int) uint32 { return uint32(frame)<<8 + 1 }

// tables is a memory of so many frames whose frame root is a first level with one entry for page, of frame second, and
// whose frame second has that page's word.
func tables(t *testing.T, frames, root, second, page int, w uint32) *mem.Mem {
	t.Helper()
	m := made(t, frames)
	put(t, m, root*16+page/16, plain(second))
	put(t, m, second*16+page%16, w)
	return m
}

// checkBits holds Bits of an entry against its word.
func checkBits(t *testing.T, e api.Entry, want uint32, wantOK bool) {
	t.Helper()
	if w, ok := walk.Bits(e); w != want || ok != wantOK {
		t.Errorf("Bits(%+v) = %#x, %v, want %#x, %v", e, w, ok, want, wantOK)
	}
}

// checkOf holds Of a word against its entry.
func checkOf(t *testing.T, w uint32, want api.Entry, wantOK bool) {
	t.Helper()
	if e, ok := walk.Of(w); e != want || ok != wantOK {
		t.Errorf("Of(%#x) = %+v, %v, want %+v, %v", w, e, ok, want, wantOK)
	}
}

// checkPage holds Page against the entry that it has to be.
func checkPage(t *testing.T, m *mem.Mem, root, page int, want api.Entry) {
	t.Helper()
	if e, ok := walk.Page(m, root, page); e != want || !ok {
		t.Errorf("Page(%d, %d) = %+v, %v, want %+v", root, page, e, ok, want)
	}
}

// checkNoPage holds that there is no such page.
func checkNoPage(t *testing.T, m *mem.Mem, root, page int) {
	t.Helper()
	if e, ok := walk.Page(m, root, page); e != (api.Entry{}) || ok {
		t.Errorf("Page(%d, %d) = %+v, %v, want none", root, page, e, ok)
	}
}

// checkWalk holds Walk against the place that it has to be.
func checkWalk(t *testing.T, m *mem.Mem, root int, addr uint32, write, user bool, want int) {
	t.Helper()
	if at, ok := walk.Walk(m, root, addr, write, user); at != want || !ok {
		t.Errorf("Walk(%d, %d, %v, %v) = %d, %v, want %d", root, addr, write, user, at, ok, want)
	}
}

// checkNoWalk holds that the word may not be reached so.
func checkNoWalk(t *testing.T, m *mem.Mem, root int, addr uint32, write, user bool) {
	t.Helper()
	if at, ok := walk.Walk(m, root, addr, write, user); at != 0 || ok {
		t.Errorf("Walk(%d, %d, %v, %v) = %d, %v, want none", root, addr, write, user, at, ok)
	}
}

// checkNoWalks holds that the word may not be reached in any way.
func checkNoWalks(t *testing.T, m *mem.Mem, root int, addr uint32) {
	t.Helper()
	for way := range 4 {
		checkNoWalk(t, m, root, addr, way&1 != 0, way&2 != 0)
	}
}

// farFrames are no frames of a memory of 1024, though some have words that are there when places go round.
func farFrames() []int {
	return []int{-1, -2, -16, -255, -256, -1024, -1 << 28, -1 << 31, -1 << 32, -1 << 56, -1 << 60, math.MinInt, math.MinInt + 1,
		1024, 1025, 2048, 1 << 24, 1<<24 + 1, 1 << 28, 1<<28 + 2, 1 << 31, 1 << 32, 1<<32 + 2, 1 << 56, 1 << 60, 1<<60 + 2, 1<<61 + 2, 1<<63 - 1<<60 + 2, math.MaxInt - 1, math.MaxInt}
}

// TestP3_1Words: words of entries, one by one, and back.
func TestP3_1Words(t *testing.T) {
	for _, c := range []struct {
		e api.Entry
		w uint32
	}{
		{api.Entry{}, 0},
		{api.Entry{Frame: 3, There: true}, 769},
		{api.Entry{There: true}, 1},
		{api.Entry{There: true, W: true}, 3},
		{api.Entry{There: true, U: true}, 5},
		{api.Entry{There: true, W: true, U: true}, 7},
		{api.Entry{Frame: 1, There: true}, 0x101},
		{api.Entry{Frame: 1, There: true, W: true}, 0x103},
		{api.Entry{Frame: 255, There: true, U: true}, 0xff05},
		{api.Entry{Frame: 256, There: true}, 0x10001},
		{api.Entry{Frame: 1022, There: true}, 0x3fe01},
		{api.Entry{Frame: 1023, There: true}, 0x3ff01},
		{api.Entry{Frame: 1023, There: true, W: true}, 0x3ff03},
		{api.Entry{Frame: 1023, There: true, U: true}, 0x3ff05},
		{api.Entry{Frame: 1023, There: true, W: true, U: true}, 0x3ff07},
	} {
		checkBits(t, c.e, c.w, true)
		checkOf(t, c.w, c.e, true)
	}
}

// TestP3_1EveryEntry: each entry that is there has its word, and no two have the same one.
func TestP3_1EveryEntry(t *testing.T) {
	for frame := range api.MaxFrames {
		for rights := range 4 {
			e := api.Entry{Frame: frame, There: true, W: rights&1 != 0, U: rights&2 != 0}
			w := uint32(frame*256 + 1 + rights*2)
			checkBits(t, e, w, true)
			checkOf(t, w, e, true)
		}
	}
}

// TestP3_1NoEntry: entries that may not be have no word.
func TestP3_1NoEntry(t *testing.T) {
	for _, frame := range farFrames() {
		for set := range 8 {
			checkBits(t, api.Entry{Frame: frame, There: set&1 != 0, W: set&2 != 0, U: set&4 != 0}, 0, false)
		}
	}
	for _, frame := range []int{0, 1, 2, 16, 255, 256, 1022, 1023} {
		for rights := range 4 {
			if frame != 0 || rights != 0 {
				checkBits(t, api.Entry{Frame: frame, W: rights&1 != 0, U: rights&2 != 0}, 0, false)
			}
		}
	}
}

// TestP3_1NoWord: a word is an entry's only if it is 0, or has 1, a frame below 1024, and no bit that no entry has.
func TestP3_1NoWord(t *testing.T) {
	for _, w := range []uint32{2, 4, 6, 8, 0x10, 0x20, 0x40, 0x80, 9, 0x11, 0x21, 0x41, 0x81, 0xf9, 0xff, 0x100, 0x102, 0x104, 0x106, 0x3ff00, 0x3ff06, 0x3ff09, 0x3ff81, 0x40000, 0x40001, 0x40007, 0x40101, 0x80001, 0x1000001, 0x80000001, 0x80000000, 0xffffff01, 0xfffffff9, 0xffffffff} {
		checkOf(t, w, api.Entry{}, false)
	}
}

// TestP3_1EveryWord: each word of the lowest 19 bits, with each of the bits above, is back what Bits makes, or is none.
func TestP3_1EveryWord(t *testing.T) {
	entries := map[uint32]api.Entry{0: {}}
	for frame := range uint32(1024) {
		for rights := range uint32(4) {
			entries[frame<<8|rights<<1|1] = api.Entry{Frame: int(frame), There: true, W: rights&1 != 0, U: rights&2 != 0}
		}
	}
	for low := range uint32(1 << 19) {
		e, is := entries[low]
		checkOf(t, low, e, is)
	}
	for w := range entries {
		for bit := 18; bit < 32; bit++ {
			checkOf(t, w|1<<bit, api.Entry{}, false)
		}
	}
}

// TestP3_2EveryPage: each page has the entry that both levels make, whichever frames they stand in, 0 and the last too.
func TestP3_2EveryPage(t *testing.T) {
	for _, shift := range []int{0, 1, 500} {
		m := made(t, api.MaxFrames)
		// The second level of part p stands in frame 1023-p, the first in frame shift; page's frame is page+3, and its
		// rights go with its number.
		for p := range 16 {
			put(t, m, shift*16+p, plain(1023-p))
			for i := range 16 {
				page := p*16 + i
				put(t, m, (1023-p)*16+i, uint32((page+3)<<8+page%4*2+1))
			}
		}
		before := m.Clone()
		for page := range api.Pages {
			e := api.Entry{Frame: page + 3, There: true, W: page&1 != 0, U: page&2 != 0}
			checkPage(t, m, shift, page, e)
			for way := range 4 {
				write, user := way&1 != 0, way&2 != 0
				for i := range 16 {
					if write && !e.W || user && !e.U {
						checkNoWalk(t, m, shift, uint32(page*16+i), write, user)
					} else {
						checkWalk(t, m, shift, uint32(page*16+i), write, user, (page+3)*16+i)
					}
				}
			}
		}
		if l := mem.Differ(m, before); len(l) > 0 {
			t.Errorf("the walks changed frames %v", l)
		}
	}
}

// TestP3_2PagesBeyond: what is no page has no entry, though its words would be there.
func TestP3_2PagesBeyond(t *testing.T) {
	m := made(t, 64)
	for f := range 64 {
		for i := range 16 {
			put(t, m, f*16+i, uint32((f+i)%64<<8+7))
		}
	}
	for _, page := range []int{-1, -2, -15, -16, -17, -255, -256, -257, -4096, -1 << 31, -1 << 32, -1 << 60, math.MinInt, math.MinInt + 1, 256, 257, 271, 272, 511, 512, 4096, 1 << 31, 1 << 32, 1<<32 + 1, 1 << 60, math.MaxInt - 1, math.MaxInt} {
		checkNoPage(t, m, 2, page)
	}
	checkPage(t, m, 2, 0, api.Entry{Frame: 2, There: true, W: true, U: true})
	checkPage(t, m, 2, 255, api.Entry{Frame: 32, There: true, W: true, U: true})
}

// TestP3_2AddressesBeyond: what is no address has no word, though its page would be there modulo 256.
func TestP3_2AddressesBeyond(t *testing.T) {
	m := made(t, 64)
	for f := range 64 {
		for i := range 16 {
			put(t, m, f*16+i, uint32((f+i)%64<<8+7))
		}
	}
	for _, addr := range []uint32{4096, 4097, 4111, 4112, 8191, 8192, 1 << 16, 1 << 20, 1 << 31, 1<<31 + 1, 1<<32 - 4096, 1<<32 - 16, 1<<32 - 2, 1<<32 - 1} {
		checkNoWalks(t, m, 2, addr)
	}
	for way := range 4 {
		checkWalk(t, m, 2, 0, way&1 != 0, way&2 != 0, 2*16)
		checkWalk(t, m, 2, 4095, way&1 != 0, way&2 != 0, 32*16+15)
	}
}

// TestP3_2Roots: the first level may stand in any frame that there is, and in no other.
func TestP3_2Roots(t *testing.T) {
	for _, frames := range []int{1, 2, 3, 17, 1023, 1024} {
		m := made(t, frames)
		for addr := range frames * 16 {
			put(t, m, addr, uint32(addr/16<<8+7))
		}
		for _, root := range []int{0, frames / 2, frames - 1} {
			for _, page := range []int{0, 1, 15, 16, 255} {
				checkPage(t, m, root, page, api.Entry{Frame: root, There: true, W: true, U: true})
				checkWalk(t, m, root, uint32(page*16+5), true, true, root*16+5)
			}
		}
		for _, root := range append(farFrames(), frames, frames+1, 2*frames) {
			for _, page := range []int{0, 1, 15, 16, 255} {
				checkNoPage(t, m, root, page)
				checkNoWalks(t, m, root, uint32(page*16))
			}
		}
	}
}

// TestP3_2SecondLevel: the first entry may name any frame that memory has, 0 and its own too, and no other.
func TestP3_2SecondLevel(t *testing.T) {
	for _, second := range []int{0, 1, 3, 4} {
		m := tables(t, 5, 2, second, 37, plain(1))
		checkPage(t, m, 2, 37, api.Entry{Frame: 1, There: true})
		checkWalk(t, m, 2, 37*16+9, false, false, 16+9)
	}
	own := made(t, 5)
	put(t, own, 2*16+1, plain(2))
	checkPage(t, own, 2, 17, api.Entry{Frame: 2, There: true})
	for _, second := range []int{5, 6, 255, 256, 1022, 1023} {
		m := made(t, 5)
		put(t, m, 2*16+2, uint32(second<<8+7))
		for i := range 16 {
			checkNoPage(t, m, 2, 32+i)
			checkNoWalks(t, m, 2, uint32(32+i)*16)
		}
	}
}

// TestP3_2LastFrameOfMemory: an entry may name a frame that memory hasn't: Page tells it, Walk finds nothing.
func TestP3_2LastFrameOfMemory(t *testing.T) {
	for _, frames := range []int{2, 5, 16, 1023} {
		for _, frame := range []int{frames, frames + 1, 1023} {
			if frame >= api.MaxFrames {
				continue
			}
			m := tables(t, frames, 0, 1, 200, uint32(frame<<8+7))
			checkPage(t, m, 0, 200, api.Entry{Frame: frame, There: true, W: true, U: true})
			checkNoWalks(t, m, 0, 3200)
			checkNoWalks(t, m, 0, 3215)
		}
		last := tables(t, frames, 0, 1, 200, uint32((frames-1)<<8+7))
		checkWalk(t, last, 0, 3200, true, true, (frames-1)*16)
		checkWalk(t, last, 0, 3215, true, true, frames*16-1)
		first := tables(t, frames, 0, 1, 200, 7)
		checkWalk(t, first, 0, 3200, true, true, 0)
		checkWalk(t, first, 0, 3215, true, true, 15)
	}
	whole := tables(t, api.MaxFrames, 0, 1, 200, 0x3ff07)
	checkWalk(t, whole, 0, 3215, true, true, 1024*16-1)
}

// badWords are no entries' words, or that of the entry that is not there; the frames that some of them seem to name are
// there in a memory of 5.
func badWords() []uint32 {
	return []uint32{0, 2, 4, 6, 0x100, 0x106, 0x300, 0x306, 0x309, 0x311, 0x321, 0x341, 0x381, 0x30f, 0x3ff, 8, 9, 0x10, 0xff, 0x40301, 0x40307, 0x80000301, 0x1000301, 0xffffffff}
}

// TestP3_2BadWords: neither level may have a word that is no entry's, or an entry that is not there.
func TestP3_2BadWords(t *testing.T) {
	for _, w := range badWords() {
		m := tables(t, 5, 2, 3, 37, plain(1))
		put(t, m, 3*16+4, w)
		put(t, m, 2*16+7, w)
		checkNoPage(t, m, 2, 36)
		checkNoWalks(t, m, 2, 36*16)
		for i := range 16 {
			checkNoPage(t, m, 2, 7*16+i)
			checkNoWalks(t, m, 2, uint32(7*16+i)*16)
		}
		checkPage(t, m, 2, 37, api.Entry{Frame: 1, There: true})
	}
}

// TestP3_2Rights: it is the second entry's rights that count; the first one's neither give nor take any.
func TestP3_2Rights(t *testing.T) {
	for first := range uint32(4) {
		for second := range uint32(4) {
			m := made(t, 8)
			put(t, m, 2*16+9, 3<<8+first*2+1)
			put(t, m, 3*16+6, 6<<8+second*2+1)
			checkPage(t, m, 2, 9*16+6, api.Entry{Frame: 6, There: true, W: second&1 != 0, U: second&2 != 0})
			for way := range uint32(4) {
				addr, write, user := uint32(9*256+6*16+11), way&1 != 0, way&2 != 0
				if way&^second == 0 {
					checkWalk(t, m, 2, addr, write, user, 6*16+11)
				} else {
					checkNoWalk(t, m, 2, addr, write, user)
				}
			}
		}
	}
}

// TestP3_2Now: what is answered is of the words as they are now.
func TestP3_2Now(t *testing.T) {
	m := tables(t, 8, 2, 3, 37, plain(5))
	checkWalk(t, m, 2, 37*16+1, false, false, 81)
	put(t, m, 3*16+5, 6<<8+7)
	checkWalk(t, m, 2, 37*16+1, true, true, 97)
	other := m.Clone()
	put(t, m, 2*16+2, 0)
	checkNoPage(t, m, 2, 37)
	checkNoWalks(t, m, 2, 37*16+1)
	checkWalk(t, other, 2, 37*16+1, true, true, 97)
}
