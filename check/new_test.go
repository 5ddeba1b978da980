package check_test

import (
	"math"
	"slices"
	"testing"

	"facade/api"
	"facade/check"
	"facade/load"
)

// refused holds that there is no check, but an error.
func refused(t *testing.T, what string, i api.Image, quota int, want error) {
	t.Helper()
	if c, err := check.New(i, quota); c != nil || err != want {
		t.Errorf("%s: %v, %v, want none and %v", what, c, err, want)
	}
}

// plain is an image of so many words of data, and 40 of code, of which only the even ones begin an instruction.
func plain(data int) api.Image {
	var lines []line
	for range 20 {
		lines = append(lines, li(1, 5))
	}
	return image(data, lines...)
}

// wrongLists are lists that are not rising places of so many words.
func wrongLists(count int) [][]int {
	l := [][]int{{-1}, {-2, 0}, {-1, 0, 1}, {count}, {count + 1}, {count, count + 1}, {math.MinInt}, {math.MaxInt}, {math.MinInt, math.MaxInt}, {1 << 32}, {-1 << 32}, {base}, {base + 1}, {0, math.MaxInt}}
	if count > 4 {
		l = append(l, []int{0, 0}, []int{3, 3}, []int{count - 1, count - 1}, []int{1, 0}, []int{0, 2, 1}, []int{2, 1, 3}, []int{0, 1, 2, 2}, []int{0, 1, 2, 0},
			[]int{0, count}, []int{count - 1, count}, []int{0, -1}, []int{0, 1, -1}, []int{-1, 3}, []int{0, 4, 3, 4}, []int{3, 1 << 32}, []int{0, count, 1})
	}
	return l
}

// rightLists are lists that are rising places of so many words.
func rightLists(count int) [][]int {
	all := make([]int, count)
	for k := range all {
		all[k] = k
	}
	return [][]int{nil, {}, {0}, {count - 1}, {0, count - 1}, {1, 2}, all, all[1:], all[:count-1]}
}

// P15.1 New: lists that are rising places of what they name.
func TestP15_1NewLists(t *testing.T) {
	for _, data := range []int{5, 16, 17, 100} {
		for _, l := range rightLists(data) {
			i := plain(data)
			i.DataRefs = l
			madeOf(t, i, 30)
		}
	}
	for _, l := range rightLists(40) {
		i := plain(20)
		i.Places = l
		made(t, i)
		i.Starts = l
		if slices.Contains(l, 0) {
			made(t, i)
		} else {
			refused(t, "it begins at no start", i, quota, api.ErrRange)
		}
	}
	i := plain(2048)
	i.Code = make([]uint32, 2048)
	i.DataRefs, i.Places, i.Starts, i.Entry = []int{0, 2047}, []int{0, 2047}, []int{0, 2047}, 4095
	madeOf(t, i, 256)
}

// P15.1 New: ErrRange, if one of them is not.
func TestP15_1NewWrongLists(t *testing.T) {
	for _, data := range []int{5, 16, 17, 2048} {
		for _, l := range wrongLists(data) {
			i := plain(data)
			i.DataRefs = l
			refused(t, "DataRefs", i, 256, api.ErrRange)
		}
	}
	for _, l := range wrongLists(40) {
		i := plain(100)
		i.Places = l
		refused(t, "Places", i, 256, api.ErrRange)
		i = plain(100)
		i.Starts = l
		refused(t, "Starts", i, 256, api.ErrRange)
		i.Starts = append([]int{0}, l...)
		refused(t, "Starts with the first word ahead", i, 256, api.ErrRange)
	}
	for _, l := range append(wrongLists(0), []int{0}, []int{1}) {
		i := plain(0)
		i.DataRefs = l
		refused(t, "DataRefs of no data", i, 256, api.ErrRange)
	}
}

// P15.1 New: each list goes by what it names, data or code, be there more of the other or not.
func TestP15_1NewWhichList(t *testing.T) {
	i := plain(41)
	i.DataRefs = []int{40}
	madeOf(t, i, 256)
	i.Places = []int{40}
	refused(t, "Places has a word of data alone", i, 256, api.ErrRange)
	i.Places, i.Starts = nil, append(i.Starts, 40)
	refused(t, "Starts has a word of data alone", i, 256, api.ErrRange)
	i = plain(39)
	i.Places, i.Starts = []int{39}, append(i.Starts, 39)
	madeOf(t, i, 256)
	i.DataRefs = []int{39}
	refused(t, "DataRefs has a word of code alone", i, 256, api.ErrRange)
}

// P15.1 New: it has to begin where an instruction does.
func TestP15_1NewEntry(t *testing.T) {
	for k := range 40 {
		i := plain(3)
		i.Entry = base + uint32(k)
		if k%2 == 0 {
			c := made(t, i)
			if c.Machine().CPU().PC != i.Entry {
				t.Errorf("it begins at %d, want %d", c.Machine().CPU().PC, i.Entry)
			}
		} else {
			refused(t, "it begins at a second word", i, quota, api.ErrRange)
		}
		i.Starts = slices.DeleteFunc(i.Starts, func(s int) bool { return s == k })
		refused(t, "it begins at no start", i, quota, api.ErrRange)
	}
	for _, l := range [][]int{nil, {}} {
		i := plain(3)
		i.Starts = l
		refused(t, "it has no start", i, quota, api.ErrRange)
	}
}

// P15.1 New: load.Bare's errors, whatever the lists are: they are met first.
func TestP15_1NewOfBare(t *testing.T) {
	bad := func(i api.Image) api.Image {
		i.DataRefs, i.Places, i.Starts = []int{-1}, []int{1 << 40}, nil
		return i
	}
	for _, x := range []struct {
		what   string
		change func(i *api.Image)
		quota  int
		want   error
	}{
		{"too much data", func(i *api.Image) { i.Data = make([]uint32, 2049) }, 256, api.ErrMany},
		{"too much code", func(i *api.Image) { i.Code = make([]uint32, 2049) }, 256, api.ErrMany},
		{"too much data, no place to begin", func(i *api.Image) { i.Data, i.Entry = make([]uint32, 2049), 0 }, 0, api.ErrMany},
		{"no code", func(i *api.Image) { i.Code, i.Starts = nil, nil }, 256, api.ErrRange},
		{"it begins ahead of code", func(i *api.Image) { i.Entry = 2047 }, 256, api.ErrRange},
		{"it begins behind code", func(i *api.Image) { i.Entry = 2088 }, 256, api.ErrRange},
		{"it begins at 0", func(i *api.Image) { i.Entry = 0 }, 256, api.ErrRange},
		{"it begins far away", func(i *api.Image) { i.Entry = most }, 256, api.ErrRange},
		{"quota 0", func(i *api.Image) {}, 0, api.ErrRange},
		{"a quota below 0", func(i *api.Image) {}, -1, api.ErrRange},
		{"a quota below its tables and data", func(i *api.Image) {}, 18, api.ErrRange},
		{"a quota above MaxQuota", func(i *api.Image) {}, 257, api.ErrRange},
		{"a quota far away", func(i *api.Image) {}, 1<<32 + 25, api.ErrRange},
	} {
		i := plain(20)
		x.change(&i)
		refused(t, x.what, i, x.quota, x.want)
		refused(t, x.what+", and wrong lists", bad(i), x.quota, x.want)
	}
	refused(t, "the zero image", api.Image{}, quota, api.ErrRange)
	for _, q := range []int{19, 25, 256} {
		madeOf(t, plain(20), q)
	}
}

// P15.1 New: the machine is load.Bare's; nothing was broken, and no register is tagged.
func TestP15_1NewMachine(t *testing.T) {
	i := plain(40)
	i.DataRefs, i.Places = []int{0, 3, 39}, []int{1, 5}
	for _, q := range []int{20, 25, 256} {
		b, err := load.Bare(i, q)
		if err != nil {
			t.Fatal(err)
		}
		ofMachine(b).holds(t, "a new one", madeOf(t, i, q))
	}
}

// P0.1: at any arguments New ends, and doesn't panic, and is the same again.
func TestP0_1New(t *testing.T) {
	lists := append(wrongLists(40), rightLists(40)...)
	for _, a := range lists {
		for _, b := range lists {
			for _, entry := range []uint32{0, base, base + 1, base + 39, base + 40, most} {
				i := plain(40)
				i.DataRefs, i.Places, i.Starts, i.Entry = a, b, a, entry
				c, err := check.New(i, 30)
				if d, again := check.New(i, 30); err != again || (c == nil) != (err != nil) || (d == nil) != (err != nil) {
					t.Errorf("%v, %v, from %d on: %v, %v", a, b, entry, err, again)
				}
				if c != nil {
					c.Step()
				}
			}
		}
	}
}
