package bare

import (
	"math"
	"testing"

	"facade/api"
	"facade/mem"
)

// late is a machine of one page of code, at a time that it would take too many steps to come to.
func late(t *testing.T, now int64, c api.CPU, words ...uint32) *Machine {
	t.Helper()
	m, err := mem.New(3)
	if err != nil {
		t.Fatal(err)
	}
	m.Fill(0, 0, 0, 0, 0, 0, 0, 0, 0, 1<<8|1)
	m.Fill(1, 2<<8|1)
	m.Fill(2, words...)
	b, err := New(m, c, api.Tables)
	if err != nil {
		t.Fatal(err)
	}
	b.now = now
	return b
}

// lateTimes are times beyond a word, and at the edges of one.
func lateTimes() []int64 {
	return []int64{1<<31 - 1, 1 << 31, 1<<32 - 2, 1<<32 - 1, 1 << 32, 1<<32 + 1, 1<<33 + 77, api.MaxTime - 1, api.MaxTime}
}

// P8.2 Gtm: the lowest 32 bits of the time.
func TestP8_2GtmLate(t *testing.T) {
	for _, now := range lateTimes() {
		b := late(t, now, api.CPU{PC: 2048}, api.Gtm<<24|3<<16)
		if !b.Step() || b.CPU().R[3] != uint32(now%(1<<32)) || b.Now() != now+1 {
			t.Errorf("at %d: register 3 is %d, time %d", now, b.CPU().R[3], b.Now())
		}
	}
}

// P8.2 Tmr: it rings at time and A, though their sum is beyond a word; a word of any size counts as it is.
func TestP8_2TmrLate(t *testing.T) {
	for _, now := range lateTimes() {
		for _, after := range []uint32{1, 2, 1 << 31, math.MaxUint32} {
			c := api.CPU{PC: 2048, IE: true, TV: 2049, R: api.Regs16{1: after}}
			b := late(t, now, c, api.Tmr<<24|1<<16, api.Br<<24)
			b.Step()
			b.now = now + int64(after) - 1
			if early := b.Clone(); after > 1 && (!early.Step() || early.CPU().Cause != 0) {
				t.Errorf("set at %d to %d: it rang one step too early", now, after)
			}
			b.now++
			if !b.Step() || b.CPU().Cause != api.CauseTimer {
				t.Errorf("set at %d to %d: it did not ring", now, after)
			}
		}
	}
}
