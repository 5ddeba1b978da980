package load_test

import (
	"math"
	"slices"
	"testing"

	"facade/api"
	"facade/load"
)

const (
	most = math.MaxUint32
	base = 2048 // where code begins
)

// w is an instruction's word.
func w(op, a, b, c int) uint32 { return uint32(op)<<24 | uint32(a)<<16 | uint32(b)<<8 | uint32(c) }

// dataWord and codeWord are words of images: no two are alike, and none is 0.
func dataWord(k int) uint32 { return 0xda000001 + uint32(k) }
func codeWord(k int) uint32 { return 0xc0000001 + uint32(k) }

// image is one of so many words of data and of code, that begins at the first one of these.
func image(data, code int) api.Image {
	i := api.Image{Entry: base}
	for k := range data {
		i.Data = append(i.Data, dataWord(k))
	}
	for k := range code {
		i.Code = append(i.Code, codeWord(k))
	}
	return i
}

// entered is an image that begins somewhere.
func entered(i api.Image, entry uint32) api.Image {
	i.Entry = entry
	return i
}

// named is an image with lists of places that name nothing.
func named(i api.Image) api.Image {
	i.DataRefs = []int{-1, 5000, 7, 7, math.MinInt, math.MaxInt}
	i.Places = []int{4096, -2048, 3}
	i.Starts = []int{math.MaxInt, -1, 2, 1}
	return i
}

// counts are numbers of words at the edges of pages, and of an image.
func counts() []int { return []int{0, 1, 2, 15, 16, 17, 31, 32, 33, 160, 2032, 2033, 2047, 2048} }

// tooMany are numbers of words that are more than MaxWords.
func tooMany() []int { return []int{2049, 2050, 2064, 2065, 4096, 65536 + 16} }

// farNumbers are numbers far from all that there is, some of which would be near again if they were cut.
func farNumbers() []int {
	return []int{
		math.MinInt, math.MinInt + 1, math.MinInt + 128, -1 << 60, -1 << 59, -1<<32 + 128, -1 << 32, math.MinInt32, -2048, -129, -128, -127, -17, -16, -2, -1,
		math.MaxInt32, 1 << 31, 1<<32 - 1, 1 << 32, 1<<32 + 1, 1<<32 + 17, 1<<32 + 128, 1 << 59, 1 << 60, 1<<60 + 1, 1<<60 + 128, 1<<63 - 16, math.MaxInt - 1, math.MaxInt,
	}
}

func cloneImage(i api.Image) api.Image {
	return api.Image{Entry: i.Entry, Data: slices.Clone(i.Data), Code: slices.Clone(i.Code), DataRefs: slices.Clone(i.DataRefs), Places: slices.Clone(i.Places), Starts: slices.Clone(i.Starts)}
}

func sameImage(a, b api.Image) bool {
	return a.Entry == b.Entry && slices.Equal(a.Data, b.Data) && slices.Equal(a.Code, b.Code) && slices.Equal(a.DataRefs, b.DataRefs) && slices.Equal(a.Places, b.Places) && slices.Equal(a.Starts, b.Starts)
}

// spare is an image whose lists have room behind them, that is not 0.
func spare(i api.Image) api.Image {
	behind := make([]uint32, 40)
	for k := range behind {
		behind[k] = most
	}
	i.Data = append(slices.Clone(i.Data), behind...)[:len(i.Data)]
	i.Code = append(slices.Clone(i.Code), behind...)[:len(i.Code)]
	return i
}

// checkSpare holds that nothing was written behind the lists of an image that spare has made.
func checkSpare(t *testing.T, i api.Image) {
	t.Helper()
	for _, l := range [][]uint32{i.Data, i.Code} {
		for k, x := range l[len(l) : len(l)+40] {
			if x != most {
				t.Errorf("word %d behind %d words was written: %#x", k, len(l), x)
			}
		}
	}
}

// P14.1 Valid: of each number of words of data and of code, where it may begin, and where it may not.
func TestP14_1Valid(t *testing.T) {
	for _, data := range counts() {
		for _, code := range counts() {
			i := image(data, code)
			for _, k := range []int{0, 1, 2, 14, 15, 16, 17, 2046, 2047, code - 2, code - 1} { // words of code, where they are there
				if k >= 0 {
					checkValid(t, entered(i, uint32(base+k)), k < code, api.ErrRange)
				}
			}
			for _, entry := range []int{0, 1, code - 1, 2046, 2047, base + code, base + code + 1, 4096, 4097, 1<<16 + base, 1 << 31, 1<<31 + base, 1<<32 - base, most - 1, most} {
				if entry < base || entry >= base+code {
					checkValid(t, entered(i, uint32(entry)), false, api.ErrRange)
				}
			}
		}
	}
}

// P14.1 Valid: written out: one ahead of code, its first word, its last one, one behind it.
func TestP14_1ValidEntry(t *testing.T) {
	for _, x := range []struct {
		code  int
		entry uint32
		is    bool
	}{
		{0, 2048, false}, {1, 2047, false}, {1, 2048, true}, {1, 2049, false}, {16, 2063, true}, {16, 2064, false}, {17, 2064, true}, {17, 2065, false}, {2047, 4094, true},
		{2047, 4095, false}, {2048, 2047, false}, {2048, 2048, true}, {2048, 4095, true}, {2048, 4096, false}, {2048, 0, false}, {2048, 1 << 31, false}, {2048, most, false},
	} {
		checkValid(t, entered(image(0, x.code), x.entry), x.is, api.ErrRange)
		checkValid(t, entered(image(2048, x.code), x.entry), x.is, api.ErrRange)
	}
}

// checkValid holds Valid of an image against nil or an error; lists of places that name nothing change nothing.
func checkValid(t *testing.T, i api.Image, is bool, want error) {
	t.Helper()
	if is {
		want = nil
	}
	for _, j := range []api.Image{i, named(i)} {
		if err := load.Valid(j); err != want {
			t.Errorf("Valid of %d words of data, %d of code, from %d on: %v, want %v", len(i.Data), len(i.Code), i.Entry, err, want)
		}
	}
}

// P14.1 Valid: more than MaxWords of data, of code, of both, is ErrMany, wherever it begins: that is met first.
func TestP14_1ValidMany(t *testing.T) {
	for _, n := range tooMany() {
		for _, i := range []api.Image{image(n, 0), image(n, 1), image(n, 2048), image(0, n), image(1, n), image(2048, n), image(n, n), image(n, 2049), image(2049, n)} {
			for _, entry := range []uint32{0, 2047, base, 2049, 4095, 4096, 4097, most} {
				checkValid(t, entered(i, entry), false, api.ErrMany)
			}
		}
	}
}

// P14.1 Valid: the zero image has no code.
func TestP14_1ValidZero(t *testing.T) {
	checkValid(t, api.Image{}, false, api.ErrRange)
	checkValid(t, api.Image{Entry: base}, false, api.ErrRange)
	checkValid(t, api.Image{Entry: base, Data: []uint32{}, Code: []uint32{}}, false, api.ErrRange)
	checkValid(t, api.Image{Entry: base, Data: []uint32{}, Code: []uint32{0}}, true, nil)
}

// pagesOf is how many pages so many words take: pages are taken as long as words are left.
func pagesOf(words int) int {
	pages := 0
	for ; words > 0; words -= 16 {
		pages++
	}
	return pages
}

// P14.1 Pages, Quota: written out.
func TestP14_1PagesWritten(t *testing.T) {
	for _, x := range [][2]int{{0, 0}, {1, 1}, {2, 1}, {15, 1}, {16, 1}, {17, 2}, {31, 2}, {32, 2}, {33, 3}, {160, 10}, {2032, 127}, {2033, 128}, {2047, 128}, {2048, 128}, {2049, 129}, {4096, 256}} {
		if a, b := load.Pages(image(x[0], 40)); a != x[1] || b != 3 {
			t.Errorf("Pages of %d words of data, 40 of code: %d, %d", x[0], a, b)
		}
		if a, b := load.Pages(image(40, x[0])); a != 3 || b != x[1] {
			t.Errorf("Pages of 40 words of data, %d of code: %d, %d", x[0], a, b)
		}
		if q := load.Quota(image(x[0], 40)); q != 17+x[1] {
			t.Errorf("Quota of %d words of data: %d", x[0], q)
		}
	}
}

// P14.1 Pages, Quota: of each number of words of data and of code, also where there are too many.
func TestP14_1Pages(t *testing.T) {
	all := append(counts(), tooMany()...)
	for _, data := range all {
		for _, code := range all {
			i := image(data, code)
			for _, j := range []api.Image{i, named(i), entered(i, 0), entered(i, most)} {
				if a, b := load.Pages(j); a != pagesOf(data) || b != pagesOf(code) {
					t.Errorf("Pages of %d words of data, %d of code: %d, %d, want %d, %d", data, code, a, b, pagesOf(data), pagesOf(code))
				}
				if q := load.Quota(j); q != 17+pagesOf(data) {
					t.Errorf("Quota of %d words of data: %d, want %d", data, q, 17+pagesOf(data))
				}
			}
		}
	}
}

// The chapter's example: Quota of an image without data: 17. nil and the empty list are the same.
func TestP14_1Example(t *testing.T) {
	for _, i := range []api.Image{{}, image(0, 1), image(0, 2048), {Data: []uint32{}, Code: []uint32{}}} {
		if q := load.Quota(i); q != 17 {
			t.Errorf("Quota of an image without data: %d, want 17", q)
		}
	}
	if a, b := load.Pages(api.Image{Data: []uint32{}, Code: []uint32{}}); a != 0 || b != 0 {
		t.Errorf("Pages of empty lists: %d, %d", a, b)
	}
}

// P14.1 CPU: PC is Entry, register 1 quota, register 2 Tables and the pages of data; all else is 0.
func TestP14_1CPU(t *testing.T) {
	for _, x := range []struct {
		quota int
		want  uint32
	}{
		{0, 0}, {1, 1}, {16, 16}, {17, 17}, {18, 18}, {145, 145}, {256, 256}, {257, 257}, {1 << 16, 1 << 16}, {1<<31 - 1, 1<<31 - 1}, {1 << 31, 1 << 31}, {1<<32 - 1, most},
		{1 << 32, 0}, {1<<32 + 1, 1}, {1<<32 + 17, 17}, {5<<32 + 256, 256}, {math.MaxInt, most}, {math.MaxInt - 1, most - 1},
		{-1, most}, {-2, most - 1}, {-17, most - 16}, {-1 << 31, 1 << 31}, {-1 << 32, 0}, {-1<<32 + 20, 20}, {math.MinInt, 0}, {math.MinInt + 3, 3},
	} {
		for _, data := range append(counts(), tooMany()...) {
			for _, entry := range []uint32{0, 1, 2047, base, 2049, 4095, 4096, 1 << 31, most} {
				want := api.CPU{PC: entry, R: api.Regs16{1: x.want, 2: uint32(17 + pagesOf(data))}}
				i := entered(image(data, 3), entry)
				if got := load.CPU(i, x.quota); got != want {
					t.Errorf("CPU of quota %d, %d words of data, from %d on:\n%+v, want\n%+v", x.quota, data, entry, got, want)
				}
			}
		}
	}
	if got, want := load.CPU(api.Image{}, 0), (api.CPU{R: api.Regs16{2: 17}}); got != want {
		t.Errorf("CPU of nothing: %+v, want %+v", got, want)
	}
}
