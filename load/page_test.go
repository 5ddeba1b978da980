package load_test

import (
	"slices"
	"testing"

	"facade/api"
	"facade/load"
)

// checkPage holds a page against its words; of none there are none, and false.
func checkPage(t *testing.T, i api.Image, page int, want []uint32) {
	t.Helper()
	got, is := load.Page(i, page)
	if is != (want != nil) || !slices.Equal(got, want) {
		t.Errorf("%d words of data, %d of code: page %d is\n%#x, %v, want\n%#x", len(i.Data), len(i.Code), page, got, is, want)
	}
}

// wordsOf are a page's words: so many as there are from k on, and 0 behind them.
func wordsOf(of func(int) uint32, k, count int) []uint32 {
	words := make([]uint32, 16)
	for n := range words {
		if k+n < count {
			words[n] = of(k + n)
		}
	}
	return words
}

// P14.1 Page: each page of data and of code, the last one filled up with 0; none between them, behind them, ahead.
func TestP14_1Page(t *testing.T) {
	for _, data := range counts() {
		for _, code := range []int{0, 1, 15, 16, 17, 33, 2033, 2047, 2048} {
			i := image(data, code)
			for page := -300; page < 600; page++ {
				var want []uint32
				if page >= 0 && page < pagesOf(data) {
					want = wordsOf(dataWord, page*16, data)
				}
				if page >= 128 && page-128 < pagesOf(code) {
					want = wordsOf(codeWord, (page-128)*16, code)
				}
				checkPage(t, i, page, want)
			}
			for _, page := range farNumbers() {
				checkPage(t, i, page, nil)
			}
		}
	}
}

// P14.1 Page: written out.
func TestP14_1PageWords(t *testing.T) {
	i := api.Image{Data: []uint32{5, 0, 7}, Code: []uint32{1, 2, 3, 4, 5, 6, 7, 8, 9, 10, 11, 12, 13, 14, 15, 16, 17}}
	checkPage(t, i, 0, []uint32{5, 0, 7, 0, 0, 0, 0, 0, 0, 0, 0, 0, 0, 0, 0, 0})
	checkPage(t, i, 1, nil)
	checkPage(t, i, 127, nil)
	checkPage(t, i, 128, []uint32{1, 2, 3, 4, 5, 6, 7, 8, 9, 10, 11, 12, 13, 14, 15, 16})
	checkPage(t, i, 129, []uint32{17, 0, 0, 0, 0, 0, 0, 0, 0, 0, 0, 0, 0, 0, 0, 0})
	checkPage(t, i, 130, nil)
	checkPage(t, api.Image{}, 0, nil)
	checkPage(t, api.Image{}, 128, nil)
	checkPage(t, api.Image{Data: []uint32{}, Code: []uint32{}}, 0, nil)
	checkPage(t, api.Image{Data: []uint32{}, Code: []uint32{}}, 128, nil)
}

// P14.1 Page: it asks neither where the image begins nor what its lists of places name.
func TestP14_1PageAny(t *testing.T) {
	for _, entry := range []uint32{0, 2047, 3000, most} {
		i := named(entered(image(20, 20), entry))
		checkPage(t, i, 0, wordsOf(dataWord, 0, 20))
		checkPage(t, i, 1, wordsOf(dataWord, 16, 20))
		checkPage(t, i, 2, nil)
		checkPage(t, i, 128, wordsOf(codeWord, 0, 20))
		checkPage(t, i, 129, wordsOf(codeWord, 16, 20))
		checkPage(t, i, 130, nil)
	}
}

// P14.1 Page: of an image that Valid refuses, too: from CodePage on it is Code's, how much Data there ever is.
func TestP14_1PageOfTooMany(t *testing.T) {
	for _, n := range tooMany() {
		i := image(n, 17)
		for page := range 128 {
			checkPage(t, i, page, wordsOf(dataWord, page*16, n))
		}
		checkPage(t, i, 128, wordsOf(codeWord, 0, 17))
		checkPage(t, i, 129, wordsOf(codeWord, 16, 17))
		checkPage(t, i, 130, nil)
		i = image(17, n)
		for page := range pagesOf(n) {
			checkPage(t, i, 128+page, wordsOf(codeWord, page*16, n))
		}
		checkPage(t, i, 128+pagesOf(n), nil)
		checkPage(t, i, 1, wordsOf(dataWord, 16, 17))
		checkPage(t, i, 2, nil)
	}
}

// P0.4: what is handed out is nobody's, its spare room too: nothing that is written into it, or appended to it, is seen
// in the image or in another page.
func TestP0_4PageIsNobodys(t *testing.T) {
	i := spare(image(40, 35))
	was := cloneImage(i)
	for page, want := range map[int][]uint32{
		0: wordsOf(dataWord, 0, 40), 1: wordsOf(dataWord, 16, 40), 2: wordsOf(dataWord, 32, 40),
		128: wordsOf(codeWord, 0, 35), 129: wordsOf(codeWord, 16, 35), 130: wordsOf(codeWord, 32, 35),
	} {
		one, _ := load.Page(i, page)
		other, _ := load.Page(i, page)
		for k := range one[:cap(one)] {
			one[:cap(one)][k] = 77
		}
		_ = append(one, 78)
		_ = append(one[:3], 79)
		if !slices.Equal(other, want) {
			t.Errorf("page %d: what is written into one is seen in another one: %#x", page, other)
		}
		checkPage(t, i, page, want)
	}
	if !sameImage(i, was) {
		t.Error("what is written into a page is seen in the image")
	}
	checkSpare(t, i)
}

// P0.4: a page goes its own way: what becomes of the image is not seen in it.
func TestP0_4PageIsKept(t *testing.T) {
	i := image(20, 20)
	a, _ := load.Page(i, 0)
	b, _ := load.Page(i, 128)
	clear(i.Data)
	clear(i.Code)
	if !slices.Equal(a, wordsOf(dataWord, 0, 20)) || !slices.Equal(b, wordsOf(codeWord, 0, 20)) {
		t.Error("what is written into the image is seen in a page")
	}
	checkPage(t, i, 0, make([]uint32, 16))
	checkPage(t, i, 128, make([]uint32, 16))
}

// P0.4: what lies behind the lists of an image counts for nothing, and stays; nothing is changed.
func TestP0_4Behind(t *testing.T) {
	for _, n := range []int{0, 1, 15, 16, 17, 2047, 2048, 2049} {
		i := named(spare(image(n, n)))
		was := cloneImage(i)
		if err := load.Valid(i); (err == nil) != (n > 0 && n <= 2048) {
			t.Errorf("Valid of %d words: %v", n, err)
		}
		if a, b := load.Pages(i); a != pagesOf(n) || b != pagesOf(n) || load.Quota(i) != 17+pagesOf(n) {
			t.Errorf("Pages of %d words: %d, %d, Quota %d", n, a, b, load.Quota(i))
		}
		if n > 0 && n <= 2048 {
			checkPage(t, i, pagesOf(n)-1, wordsOf(dataWord, (pagesOf(n)-1)*16, n))
			checkPage(t, i, 127+pagesOf(n), wordsOf(codeWord, (pagesOf(n)-1)*16, n))
			checkMemory(t, i, 200)
		}
		if !sameImage(i, was) {
			t.Errorf("an image of %d words was changed", n)
		}
		checkSpare(t, i)
	}
}
