package load_test

import (
	"math"
	"testing"

	"facade/api"
	"facade/bare"
	"facade/load"
	"facade/mem"
	"facade/walk"
)

// machine is that of an image that can be loaded.
func machine(t *testing.T, i api.Image, quota int) *bare.Machine {
	t.Helper()
	b, err := load.Bare(i, quota)
	if err != nil || b == nil {
		t.Fatalf("%d words of data, %d of code, quota %d: %v, %v, want a machine", len(i.Data), len(i.Code), quota, b, err)
	}
	return b
}

// checkRefused holds that there is no machine, but an error.
func checkRefused(t *testing.T, i api.Image, quota int, want error) {
	t.Helper()
	if b, err := load.Bare(i, quota); b != nil || err != want {
		t.Errorf("%d words of data, %d of code, from %d on, quota %d: %v, %v, want none and %v", len(i.Data), len(i.Code), i.Entry, quota, b, err, want)
	}
}

// P14.2 Bare: the error of Valid, whatever quota is: it is met first.
func TestP14_2NotValid(t *testing.T) {
	for _, quota := range append(farNumbers(), 0, 16, 17, 18, 100, 145, 146, 200, 256, 257) {
		for _, i := range []api.Image{image(2049, 1), image(0, 2049), image(2049, 2049), entered(image(2049, 1), 0), entered(image(1, 2049), 4096), image(4096, 0)} {
			checkRefused(t, i, quota, api.ErrMany)
			checkRefused(t, named(i), quota, api.ErrMany)
		}
		for _, i := range []api.Image{{}, image(0, 0), image(17, 0), entered(image(0, 1), 2047), entered(image(0, 1), 2049), entered(image(0, 17), 2065), entered(image(0, 17), 0), entered(image(5, 2048), 4096), entered(image(5, 2048), most)} {
			checkRefused(t, i, quota, api.ErrRange)
		}
	}
}

// P14.2 Bare: quota from Quota on, to MaxQuota.
func TestP14_2Quota(t *testing.T) {
	for _, data := range counts() {
		for _, code := range []int{1, 16, 17, 2048} {
			i := image(data, code)
			least := 17 + pagesOf(data)
			for _, quota := range append(farNumbers(), 0, 1, 16, least-2, least-1, 257, 258, 300, 1024, 1025, 1<<32+least, 1<<32+256) {
				checkRefused(t, i, quota, api.ErrRange)
			}
			for _, quota := range []int{least, least + 1, 146, 200, 255, 256} {
				machine(t, i, quota)
			}
		}
	}
}

// P14.2 Bare: lists of places that name nothing count for nothing.
func TestP14_2Named(t *testing.T) {
	i := image(20, 20)
	a, b := machine(t, i, 30), machine(t, named(i), 30)
	if l := mem.Differ(a.Mem(), b.Mem()); len(l) > 0 || a.CPU() != b.CPU() {
		t.Errorf("frames %v differ; %+v, %+v", l, a.CPU(), b.CPU())
	}
	checkMemory(t, named(i), 30)
}

// tableWord is what has to stand in a table of the second level for a page.
func tableWord(i api.Image, quota, page int) uint32 {
	switch {
	case page < pagesOf(len(i.Data)):
		return uint32(17+page)*256 + 7
	case page >= 128 && page-128 < pagesOf(len(i.Code)):
		return uint32(quota+page-128)*256 + 5
	}
	return 0
}

// frameWord is what has to stand in a frame's k-th word.
func frameWord(i api.Image, quota, f, k int) uint32 {
	switch at := (f-17)*16 + k; {
	case f == 0:
		return uint32(k+1)*256 + 7
	case f < 17:
		return tableWord(i, quota, (f-1)*16+k)
	case f < quota && at < len(i.Data):
		return i.Data[at]
	}
	if at := (f-quota)*16 + k; f >= quota && at < len(i.Code) {
		return i.Code[at]
	}
	return 0
}

// checkMemory holds all words of an image's memory against those that have to stand there.
func checkMemory(t *testing.T, i api.Image, quota int) {
	t.Helper()
	m := machine(t, i, quota).Mem()
	if got, want := m.Frames(), quota+pagesOf(len(i.Code)); got != want {
		t.Fatalf("%d words of code, quota %d: %d frames, want %d", len(i.Code), quota, got, want)
	}
	for f := range m.Frames() {
		words, _ := m.Frame(f)
		for k, x := range words {
			if want := frameWord(i, quota, f, k); x != want {
				t.Fatalf("%d words of data, %d of code, quota %d: word %d of frame %d is %#x, want %#x", len(i.Data), len(i.Code), quota, k, f, x, want)
			}
		}
	}
}

// P14.2 Bare: each word of memory: the tables, data, nothing behind it, code.
func TestP14_2Memory(t *testing.T) {
	for _, data := range counts() {
		for _, code := range []int{1, 2, 15, 16, 17, 256, 257, 2047, 2048} {
			i := image(data, code)
			for _, quota := range []int{17 + pagesOf(data), 18 + pagesOf(data), 150, 255, 256} {
				checkMemory(t, i, quota)
			}
		}
	}
}

// P14.2 Bare: each quota that there may be.
func TestP14_2MemoryOfEachQuota(t *testing.T) {
	i := image(33, 40)
	for quota := 20; quota <= 256; quota++ {
		checkMemory(t, i, quota)
	}
}

// P14.2 Bare: words of data and of code are what they are, 0 and the greatest one, too.
func TestP14_2Words(t *testing.T) {
	checkMemory(t, api.Image{Entry: base, Data: []uint32{0, most, 1 << 31, 0, 5}, Code: []uint32{most, 0, 1}}, 18)
	checkMemory(t, api.Image{Entry: 4095, Data: make([]uint32, 2048), Code: make([]uint32, 2048)}, 256)
}

// P14.2 Bare: each entry of the first level, and of the second one, as walk has them, and so each address.
func TestP14_2Tables(t *testing.T) {
	for _, x := range []struct{ data, code, quota int }{{0, 1, 17}, {1, 16, 18}, {17, 17, 25}, {33, 40, 256}, {2048, 2048, 145}, {2048, 2048, 256}, {2033, 2033, 146}} {
		m := machine(t, image(x.data, x.code), x.quota).Mem()
		for k := range 16 {
			word, _ := m.Read(k)
			if e, is := walk.Of(word); !is || e != (api.Entry{Frame: k + 1, There: true, W: true, U: true}) {
				t.Errorf("%+v: entry %d of the first level is %+v", x, k, e)
			}
		}
		for page := range 256 {
			var want api.Entry
			if page < pagesOf(x.data) {
				want = api.Entry{Frame: 17 + page, There: true, W: true, U: true}
			}
			if page >= 128 && page < 128+pagesOf(x.code) {
				want = api.Entry{Frame: x.quota + page - 128, There: true, U: true}
			}
			if e, is := walk.Page(m, 0, page); e != want || is != want.There {
				t.Errorf("%+v: page %d is %+v, want %+v", x, page, e, want)
			}
		}
	}
}

// P14.2 Bare: what the kernel, or a user, finds at each address, and where it may write.
func TestP14_2Addresses(t *testing.T) {
	i := image(40, 2000)
	m := machine(t, i, 31).Mem()
	for addr := range uint32(4200) {
		page := int(addr / 16)
		data, code := page < 3, page >= 128 && page < 253
		for _, user := range []bool{false, true} {
			at, is := walk.Walk(m, 0, addr, false, user)
			if is != (data || code) {
				t.Errorf("address %d, user %v: %v", addr, user, is)
			}
			var want uint32
			if addr < 40 {
				want = dataWord(int(addr))
			}
			if addr >= base && addr < base+2000 {
				want = codeWord(int(addr) - base)
			}
			if got, _ := m.Read(at); is && got != want {
				t.Errorf("address %d, user %v: %#x, want %#x", addr, user, got, want)
			}
			if _, is := walk.Walk(m, 0, addr, true, user); is != data {
				t.Errorf("address %d, to be written, user %v: %v", addr, user, is)
			}
		}
	}
}

// P14.2 Bare: it begins as bare.New makes it: the processor of CPU, time 0, nothing seen, nothing that waits.
func TestP14_2New(t *testing.T) {
	for _, x := range []struct {
		i     api.Image
		quota int
	}{{image(0, 1), 17}, {image(33, 17), 20}, {entered(image(33, 17), 2064), 256}, {entered(image(2048, 2048), 4095), 200}} {
		b := machine(t, x.i, x.quota)
		want := api.CPU{PC: x.i.Entry, R: api.Regs16{1: uint32(x.quota), 2: uint32(17 + pagesOf(len(x.i.Data)))}}
		if c := b.CPU(); c != want || c != load.CPU(x.i, x.quota) {
			t.Errorf("the processor is %+v, want %+v", c, want)
		}
		if b.Now() != 0 || b.Over() || b.Waiting() != 0 || len(b.Seen()) != 0 {
			t.Errorf("time %d, over %v, %d wait, seen %v", b.Now(), b.Over(), b.Waiting(), b.Seen())
		}
		for k := range uint32(api.MaxKeys + 1) {
			if b.Press(k) != (k < api.MaxKeys) {
				t.Errorf("key %d: whether it finds room", k)
			}
		}
	}
}

// loaded is an image of these words of code, and of so many words of data.
func loaded(data int, code ...uint32) api.Image {
	i := image(data, 0)
	i.Code = code
	return i
}

// run does so many steps.
func run(t *testing.T, b *bare.Machine, steps int) {
	t.Helper()
	for k := range steps {
		if !b.Step() {
			t.Fatalf("step %d is false", k)
		}
	}
}

// P14.2 Bare: its updates may name frames from Tables to below quota, and no other ones.
func TestP14_2Updates(t *testing.T) {
	for _, quota := range []int{18, 19, 100, 255, 256} {
		for frame, is := range map[int]bool{0: false, 16: false, 17: true, quota - 1: true, quota: false, quota + 1: false} {
			b := machine(t, loaded(1, w(api.Li, 3, 0, 0), uint32(frame)<<8|3, w(api.Spte, 4, 3, 0), w(api.Sync, 0, 0, 0), w(api.Ld, 5, 4, 0)), quota)
			run(t, b, 2)
			if got := b.Waiting() == 1; got != is {
				t.Errorf("quota %d, frame %d: %d wait", quota, frame, b.Waiting())
			}
			run(t, b, 1)
			if e, _ := walk.Page(b.Mem(), 0, 0); (e.Frame == frame && !e.U) != is {
				t.Errorf("quota %d, frame %d: page 0 is %+v", quota, frame, e)
			}
		}
	}
}

// P14.2 Bare: a kernel runs: it shows what it was told, its data, and writes there; it begins where Entry is.
func TestP14_2Runs(t *testing.T) {
	i := loaded(20, w(api.Halt, 0, 0, 0), w(api.Out, 1, 0, 0), w(api.Out, 2, 0, 0), w(api.Li, 3, 0, 0), 19, w(api.Ld, 4, 3, 0), w(api.Out, 4, 0, 0), w(api.St, 1, 3, 1), w(api.Ld, 5, 3, 1), w(api.Out, 5, 0, 0), w(api.Halt, 3, 0, 0))
	i.Entry = 2049
	b := machine(t, i, 23)
	if in, is := b.Next(); !is || in != (api.Instr{Op: api.Out, A: 1}) {
		t.Fatalf("it begins with %+v, %v", in, is)
	}
	run(t, b, 9)
	want := []api.Seen{{Kind: api.SeenOut, N: 23}, {Kind: api.SeenOut, N: 19}, {Kind: api.SeenOut, N: dataWord(19)}, {Kind: api.SeenOut, N: 23}, {Kind: api.SeenHalt, N: 19}}
	for k, s := range b.Seen() {
		if k >= len(want) || s != want[k] {
			t.Errorf("seen %d: %+v, of %+v", k, s, want)
		}
	}
	if !b.Over() || len(b.Seen()) != len(want) {
		t.Errorf("over %v, seen %v", b.Over(), b.Seen())
	}
	if x, _ := b.Mem().Read(17*16 + 20); x != 23 {
		t.Errorf("data's word 20 is %d, want 23", x)
	}
}

// P14.2 Bare: code can be read, and cannot be written; between data and code there is nothing.
func TestP14_2Faults(t *testing.T) {
	for _, x := range []struct {
		op   int
		addr uint32
		is   bool
	}{
		{api.Ld, 0, true}, {api.St, 0, true}, {api.Ld, 31, true}, {api.St, 31, true}, {api.Ld, 32, false}, {api.St, 32, false}, {api.Ld, 2047, false}, {api.St, 2047, false},
		{api.Ld, 2048, true}, {api.St, 2048, false}, {api.Ld, 2063, true}, {api.St, 2063, false}, {api.Ld, 2064, false}, {api.Ld, 4095, false}, {api.Ld, 4096, false}, {api.St, most, false},
	} {
		b := machine(t, loaded(17, w(api.Li, 3, 0, 0), x.addr, w(x.op, 1, 3, 0)), 256)
		run(t, b, 2)
		if b.Over() == x.is {
			t.Errorf("%+v: over %v, seen %v", x, b.Over(), b.Seen())
		}
	}
}

// P0.4: a machine keeps nothing of the image, and changes nothing of it; two of one image are each their own.
func TestP0_4Machine(t *testing.T) {
	i := spare(loaded(3, w(api.Li, 3, 0, 0), 0, w(api.St, 1, 3, 0), w(api.Out, 1, 0, 0), w(api.Nop, 0, 0, 0)))
	was := cloneImage(i)
	a, b := machine(t, i, 40), machine(t, i, 40)
	before := b.Mem()
	run(t, a, 4)
	if !sameImage(i, was) {
		t.Error("a step is seen in the image")
	}
	checkSpare(t, i)
	if l := mem.Differ(before, b.Mem()); len(l) > 0 || b.Now() != 0 || len(b.Seen()) > 0 || b.CPU() != load.CPU(i, 40) {
		t.Errorf("a step is seen in another machine: frames %v, time %d, seen %v", l, b.Now(), b.Seen())
	}
	clear(i.Data)
	clear(i.Code)
	if l := mem.Differ(before, b.Mem()); len(l) > 0 {
		t.Errorf("what is written into the image is seen in frames %v", l)
	}
	checkMemory(t, i, 40)
}

// P0.1, P0.5: at any arguments each call ends, none panics, and a call that is made again answers the same.
func TestP0_1Any(t *testing.T) {
	for _, n := range []int{0, 1, 16, 2048, 2049, 5000} {
		for _, entry := range []uint32{0, 2047, 2048, 4095, 4096, most} {
			for _, x := range append(farNumbers(), 0, 1, 17, 127, 128, 145, 255, 256, 257) {
				i := named(entered(image(n, n), entry))
				a, errA := load.Bare(i, x)
				b, errB := load.Bare(i, x)
				if errA != errB || (a == nil) != (errA != nil) || (b == nil) != (errB != nil) {
					t.Errorf("%d words, from %d on, quota %d: %v, %v", n, entry, x, errA, errB)
				}
				if a != nil && len(mem.Differ(a.Mem(), b.Mem())) > 0 {
					t.Errorf("%d words, from %d on, quota %d: two memories", n, entry, x)
				}
				if words, is := load.Page(i, x); is != (len(words) == 16) || len(words)%16 != 0 {
					t.Errorf("%d words: page %d: %v, %v", n, x, words, is)
				}
				if load.CPU(i, x) != load.CPU(i, x) || load.CPU(i, x).PC != entry {
					t.Errorf("%d words, from %d on: %+v", n, entry, load.CPU(i, x))
				}
			}
		}
	}
	if load.CPU(api.Image{}, math.MaxInt).R[1] != most {
		t.Error("quota's lowest bits")
	}
}
