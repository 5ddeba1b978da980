package check

import (
	"slices"
	"testing"

	"facade/api"
	"facade/mem"
)

// astray is a check of words of code whose TV, 2060, is no place of code. No call brings it about, since Stv of such a
// word breaks something: so the tag is taken away by hand. Words 0 to 3 are done ahead; each word begins an instruction,
// but those of starts. Register 4 is 2060, and a place of code.
func astray(t *testing.T, starts []int, words ...uint32) *Check {
	t.Helper()
	code := []uint32{api.La<<24 | 4<<16, 2060, api.Stv<<24 | 4<<16, api.Sti << 24}
	i := api.Image{Entry: codeStart, Code: append(code, words...), Data: make([]uint32, 20), Places: []int{1}, Starts: []int{0, 2, 3}}
	for _, k := range starts {
		i.Starts = append(i.Starts, k)
	}
	c, err := New(i, 25)
	if err != nil {
		t.Fatal(err)
	}
	for range 3 {
		if is, broken := c.Step(); !is || broken != 0 {
			t.Fatalf("ahead of it: %v, %d", is, broken)
		}
	}
	if !c.tags.tv || c.b.CPU().TV != 2060 {
		t.Fatalf("TV is %d, tagged %v", c.b.CPU().TV, c.tags.tv)
	}
	c.tags.tv = false
	return c
}

// checkBroken holds that the next step breaks that, and that nothing else becomes of it.
func checkBroken(t *testing.T, what string, c *Check, want int) {
	t.Helper()
	was := c.b.Clone()
	if is, broken := c.Step(); !is || broken != want || c.Broken() != want {
		t.Errorf("%s: Step is %v, %d, want true, %d", what, is, broken, want)
	}
	if is, broken := c.Step(); is || broken != 0 {
		t.Errorf("%s: a step behind it is %v, %d", what, is, broken)
	}
	if c.b.CPU() != was.CPU() || c.b.Now() != was.Now() || c.b.Over() || !slices.Equal(c.b.Seen(), was.Seen()) || len(mem.Differ(c.b.Mem(), was.Mem())) > 0 {
		t.Errorf("%s: something was done", what)
	}
}

// checkFine holds that the next step breaks nothing.
func checkFine(t *testing.T, what string, c *Check) {
	t.Helper()
	if is, broken := c.Step(); !is || broken != 0 || c.Broken() != 0 {
		t.Errorf("%s: Step is %v, %d, want true, 0", what, is, broken)
	}
}

// P15.1 NotCode: an interrupt that would go to what is no place of code, ahead of all else, whatever stands there, or
// at PC.
func TestP15_1AstrayInterrupt(t *testing.T) {
	for _, x := range []uint32{api.Nop << 24, 0, api.Hc << 24, api.Out<<24 | 4<<16} {
		for _, starts := range [][]int{nil, {4}, {4, 12}} {
			words := make([]uint32, 13)
			words[0], words[8] = x, x
			c := astray(t, starts, words...)
			c.Press(5)
			checkBroken(t, "a key", c, NotCode)
			c = astray(t, starts, words...)
			c.signals.rings = 2 // it is due, though no Tmr set the machine's
			checkBroken(t, "the timer", c, NotCode)
		}
	}
	c := astray(t, []int{4}, api.Nop<<24)
	checkFine(t, "no interrupt", c)
}

// P15.1 NotCode: an interrupt by a timer that the kernel set.
func TestP15_1AstrayTimer(t *testing.T) {
	c := astray(t, []int{4, 6, 7, 8}, api.Li<<24|5<<16, 2, api.Tmr<<24|5<<16, api.Nop<<24, api.Br<<24)
	for range 3 {
		checkFine(t, "ahead of its time", c)
	}
	checkBroken(t, "the timer", c, NotCode)
}

// P15.1 NotCode: a fault of memory whose trap would go to what is no place of code; where TV is one, or 0, it doesn't.
func TestP15_1AstrayFault(t *testing.T) {
	for _, x := range []uint32{api.Ld<<24 | 5<<16 | 6<<8 | 32, api.St<<24 | 5<<16 | 6<<8 | 32, api.Ld<<24 | 4<<16 | 6<<8 | 255, api.St<<24 | 4<<16 | 6<<8 | 255} {
		checkBroken(t, "a fault", astray(t, []int{4}, x), NotCode)
		c := astray(t, []int{4}, x)
		c.tags.tv = true
		checkFine(t, "a fault that is taken", c)
		if c.b.CPU().Cause != api.CausePage {
			t.Error("no fault was taken")
		}
	}
	for _, x := range []uint32{api.Ld<<24 | 5<<16 | 6<<8 | 31, api.St<<24 | 4<<16 | 6<<8 | 31} {
		checkFine(t, "no fault", astray(t, []int{4}, x))
	}
	words := make([]uint32, 12)
	words[0], words[11] = api.Br<<24|11, api.La<<24
	c := astray(t, []int{4, 15}, words...)
	checkFine(t, "a branch", c)
	checkBroken(t, "no second word", c, NotCode)
}

// P15.1: what is broken ahead of a fault is told ahead of it.
func TestP15_1AstrayOrder(t *testing.T) {
	for _, x := range []uint32{api.Ld<<24 | 5<<16 | 4<<8, api.St<<24 | 5<<16 | 4<<8} {
		checkBroken(t, "a place as an address", astray(t, []int{4}, x), Mixed)
	}
	for _, o := range []uint32{api.Ld, api.St} {
		c := astray(t, []int{4, 6}, api.Li<<24|5<<16, 4000, o<<24|6<<16|5<<8)
		checkFine(t, "a number", c)
		checkBroken(t, "code without a page", c, CodeRead)
	}
	checkBroken(t, "no start", astray(t, nil, api.Ld<<24|5<<16|6<<8|32), OutOfMap)
}
