package isa_test

import (
	"math"
	"testing"

	"facade/api"
	"facade/isa"
)

// row is what the chapter says of one instruction. has names A, B and C in this order: r a register, n a number, - none.
type row struct {
	op, class  int
	name, has  string
	two, jumps bool
}

func rows() []row {
	return []row{
		{api.Nop, isa.Innocuous, "nop", "---", false, false},
		{api.Mov, isa.Innocuous, "mov", "rr-", false, false},
		{api.Add, isa.Innocuous, "add", "rrr", false, false},
		{api.Sub, isa.Innocuous, "sub", "rrr", false, false},
		{api.And, isa.Innocuous, "and", "rrr", false, false},
		{api.Or, isa.Innocuous, "or", "rrr", false, false},
		{api.Xor, isa.Innocuous, "xor", "rrr", false, false},
		{api.Shl, isa.Innocuous, "shl", "rrr", false, false},
		{api.Shr, isa.Innocuous, "shr", "rrr", false, false},
		{api.Lt, isa.Innocuous, "lt", "rrr", false, false},
		{api.Eq, isa.Innocuous, "eq", "rrr", false, false},
		{api.Ld, isa.Innocuous, "ld", "rrn", false, false},
		{api.St, isa.Innocuous, "st", "rrn", false, false},
		{api.Li, isa.Innocuous, "li", "r--", true, false},
		{api.La, isa.Innocuous, "la", "r--", true, false},
		{api.Br, isa.Innocuous, "br", "--n", false, true},
		{api.Brz, isa.Innocuous, "brz", "r-n", false, true},
		{api.Brn, isa.Innocuous, "brn", "r-n", false, true},
		{api.Jmp, isa.Innocuous, "jmp", "---", true, true},
		{api.Jz, isa.Innocuous, "jz", "r--", true, true},
		{api.Jn, isa.Innocuous, "jn", "r--", true, true},
		{api.Call, isa.Innocuous, "call", "---", true, true},
		{api.Jr, isa.Innocuous, "jr", "r--", false, true},
		{api.Mul, isa.Innocuous, "mul", "rrr", false, false},
		{api.Halt, isa.Trapping, "halt", "r--", false, false},
		{api.Stv, isa.Trapping, "stv", "r--", false, false},
		{api.Rti, isa.Trapping, "rti", "---", false, false},
		{api.Out, isa.Trapping, "out", "r--", false, false},
		{api.In, isa.Trapping, "in", "r--", false, false},
		{api.Bwr, isa.Trapping, "bwr", "rr-", false, false},
		{api.Brd, isa.Trapping, "brd", "rr-", false, false},
		{api.Tmr, isa.Trapping, "tmr", "r--", false, false},
		{api.Gtm, isa.Trapping, "gtm", "r--", false, false},
		{api.Spte, isa.Trapping, "spte", "rr-", false, false},
		{api.Sync, isa.Trapping, "sync", "---", false, false},
		{api.Gcs, isa.Trapping, "gcs", "r--", false, false},
		{api.Gfa, isa.Trapping, "gfa", "r--", false, false},
		{api.Cli, isa.Silent, "cli", "---", false, false},
		{api.Sti, isa.Silent, "sti", "---", false, false},
		{api.Gst, isa.Silent, "gst", "r--", false, false},
		{api.Sst, isa.Silent, "sst", "r--", false, false},
		{api.Hc, isa.Calling, "hc", "---", true, false},
	}
}

// byOp are the rows by their numbers.
var byOp = func() map[int]row {
	m := map[int]row{}
	for _, r := range rows() {
		m[r.op] = r
	}
	return m
}()

// rowOf is the row of an instruction, or one without a class.
func rowOf(op int) row {
	if r, ok := byOp[op]; ok {
		return r
	}
	return row{op: op, has: "---"}
}

// within tells whether an operand of that kind may be n.
func within(kind byte, n int) bool {
	switch kind {
	case 'r':
		return n >= 0 && n <= 15
	case 'n':
		return n >= 0 && n <= 255
	}
	return n == 0
}

// right tells whether the chapter has that instruction.
func right(i api.Instr) bool {
	r := rowOf(i.Op)
	return r.class != 0 && within(r.has[0], i.A) && within(r.has[1], i.B) && within(r.has[2], i.C) && (r.two || i.Imm == 0)
}

// farOps are numbers far outside of a byte, such ones too that are an instruction's when they are cut.
func farOps() []int {
	return []int{math.MinInt, math.MinInt + api.Add, -256 + api.Nop, -1, 256, 256 + api.Nop, 256 + api.Li, 256 + api.Br, 1<<16 + api.Halt, 1<<32 + api.Cli, 1<<32 + api.Hc, math.MaxInt}
}

// P1.1: Class, Two, Jumps of each number that a byte can have.
func TestTableOfAllNumbers(t *testing.T) {
	x := isa.Tables()
	for op := range 256 {
		r := rowOf(op)
		if got := x.Class(op); got != r.class {
			t.Errorf("Class(%d) = %d, want %d", op, got, r.class)
		}
		if got := x.Two(op); got != r.two {
			t.Errorf("Two(%d) = %v", op, got)
		}
		if got := x.Jumps(op); got != r.jumps {
			t.Errorf("Jumps(%d) = %v", op, got)
		}
	}
}

// P1.1: numbers that are no byte are no instruction's.
func TestTableOfFarNumbers(t *testing.T) {
	x := isa.Tables()
	for _, op := range farOps() {
		if x.Class(op) != 0 || x.Two(op) || x.Jumps(op) {
			t.Error(op, x.Class(op), x.Two(op), x.Jumps(op))
		}
	}
}

// P1.1: the classes' numbers are the chapter's.
func TestClassNumbers(t *testing.T) {
	if got := [4]int{isa.Innocuous, isa.Trapping, isa.Silent, isa.Calling}; got != [4]int{1, 2, 3, 4} {
		t.Error(got)
	}
}

// P1.1, Ways: the three questions can be taken as method expressions.
func TestMethodExpressions(t *testing.T) {
	class, yes := isa.Table.Class, []func(isa.Table, int) bool{isa.Table.Two, isa.Table.Jumps}
	if class(isa.Tables(), api.Sst) != isa.Silent || !yes[0](isa.Tables(), api.Li) || yes[1](isa.Tables(), api.Li) || !yes[1](isa.Tables(), api.Jr) {
		t.Error("a question taken as a method expression is answered otherwise")
	}
}

// P1.1, P1.2: eight bits each, from the highest on.
func TestWordLayout(t *testing.T) {
	for _, x := range []struct {
		i api.Instr
		w uint32
	}{
		{api.Instr{Op: api.Add, A: 1, B: 2, C: 3}, 0x03010203},
		{api.Instr{Op: api.Nop}, 0x01000000},
		{api.Instr{Op: api.Mul, A: 15, B: 15, C: 15}, 0x180f0f0f},
		{api.Instr{Op: api.St, A: 15, C: 255}, 0x0d0f00ff},
		{api.Instr{Op: api.Br, C: 255}, 0x100000ff},
		{api.Instr{Op: api.Brn, A: 9, C: 128}, 0x12090080},
		{api.Instr{Op: api.Li, A: 7, Imm: 0xffffffff}, 0x0e070000},
		{api.Instr{Op: api.Spte, A: 4, B: 5}, 0x29040500},
		{api.Instr{Op: api.Sst, A: 3}, 0x43030000},
		{api.Instr{Op: api.Hc, Imm: 1}, 0x60000000},
	} {
		if w, ok := isa.Word(x.i); w != x.w || !ok {
			t.Errorf("Word(%v) = %#x, %v, want %#x", x.i, w, ok, x.w)
		}
	}
}

// P1.2, P1.3: each operand of each number at the edges of its range: what may not be has no word and no text.
func TestOperandsAtEdges(t *testing.T) {
	edges := []int{math.MinInt, -256, -1, 0, 1, 15, 16, 255, 256, 257, 1 << 32, math.MaxInt}
	for op := -1; op < 257; op++ {
		for _, a := range edges {
			for _, b := range edges {
				for _, c := range edges {
					for _, imm := range []uint32{0, 1, math.MaxUint32} {
						checkWord(t, api.Instr{Op: op, A: a, B: b, C: c, Imm: imm})
					}
				}
			}
		}
	}
}

// checkWord holds Word and Text of one instruction against the chapter's rows, and Of against Word.
func checkWord(t *testing.T, i api.Instr) {
	w, ok := isa.Word(i)
	if ok != right(i) {
		t.Fatalf("Word(%v) is %v", i, ok)
	}
	if !ok {
		if w != 0 || isa.Text(i) != "" {
			t.Fatalf("beside a false of %v: %#x, text %q", i, w, isa.Text(i))
		}
		return
	}
	if back, is := isa.Of(w, i.Imm); back != i || !is {
		t.Fatalf("Of(Word(%v)) = %v, %v", i, back, is)
	}
}

// P1.2: a number far outside of a byte has no word, though its lowest bits are an instruction's.
func TestWordOfFarNumbers(t *testing.T) {
	for _, op := range farOps() {
		if w, ok := isa.Word(api.Instr{Op: op}); ok || w != 0 {
			t.Error(op, w, ok)
		}
	}
}

// P1.2: of words at the edges of each byte: just those that Word makes are instructions.
func TestOfWords(t *testing.T) {
	edges := []uint32{0, 1, 14, 15, 16, 127, 128, 240, 255}
	for op := range uint32(256) {
		for _, a := range edges {
			for _, b := range edges {
				for _, c := range edges {
					for _, imm := range []uint32{0, 77, math.MaxUint32} {
						checkOf(t, op<<24|a<<16|b<<8|c, imm)
					}
				}
			}
		}
	}
}

// checkOf holds Of of one word against the chapter's rows.
func checkOf(t *testing.T, w, imm uint32) {
	want := api.Instr{Op: int(w >> 24), A: int(w >> 16 & 255), B: int(w >> 8 & 255), C: int(w & 255)}
	if rowOf(want.Op).two {
		want.Imm = imm
	}
	is := right(want)
	if !is {
		want = api.Instr{}
	}
	if got, ok := isa.Of(w, imm); got != want || ok != is {
		t.Fatalf("Of(%#x, %#x) = %v, %v, want %v, %v", w, imm, got, ok, want, is)
	}
}

// P1.2: the lowest eight bits, as a number with a sign.
func TestDisp(t *testing.T) {
	for c := range 256 {
		want := c
		if c > 127 {
			want = c - 256
		}
		for _, far := range []int{0, 256, -256, 1 << 32, -1 << 40, math.MinInt} {
			if got := isa.Disp(c + far); got != want {
				t.Errorf("Disp(%d) = %d, want %d", c+far, got, want)
			}
		}
	}
	if isa.Disp(math.MaxInt) != -1 {
		t.Error(isa.Disp(math.MaxInt))
	}
}

// P1.3: the word of each instruction, and just the operands that it has.
func TestTextOfEach(t *testing.T) {
	for _, r := range rows() {
		i, want := api.Instr{Op: r.op}, r.name
		numbers := [3]*int{&i.A, &i.B, &i.C}
		for k, kind := range r.has {
			switch kind {
			case 'r':
				*numbers[k] = 10 + k
				want += [3]string{" r10", " r11", " r12"}[k]
			case 'n':
				*numbers[k] = 107
				want += " 107"
			}
		}
		if r.two {
			i.Imm = 0xc0ffee
			want += " 0xc0ffee"
		}
		if got := isa.Text(i); got != want {
			t.Errorf("Text(%v) = %q, want %q", i, got, want)
		}
	}
}

// P1.3: numbers at their edges.
func TestTextAtEdges(t *testing.T) {
	for _, x := range []struct {
		i    api.Instr
		want string
	}{
		{api.Instr{Op: api.Add}, "add r0 r0 r0"},
		{api.Instr{Op: api.Mul, A: 15, B: 9, C: 10}, "mul r15 r9 r10"},
		{api.Instr{Op: api.Ld, A: 1, B: 2}, "ld r1 r2 0"},
		{api.Instr{Op: api.St, A: 1, B: 2, C: 255}, "st r1 r2 255"},
		{api.Instr{Op: api.Br}, "br 0"},
		{api.Instr{Op: api.Br, C: 128}, "br 128"},
		{api.Instr{Op: api.Brz, A: 3, C: 16}, "brz r3 16"},
		{api.Instr{Op: api.Jmp}, "jmp 0x0"},
		{api.Instr{Op: api.Jz, A: 3, Imm: 0x800}, "jz r3 0x800"},
		{api.Instr{Op: api.La, A: 15, Imm: 0xffffffff}, "la r15 0xffffffff"},
		{api.Instr{Op: api.Hc, Imm: 10}, "hc 0xa"},
	} {
		if got := isa.Text(x.i); got != x.want {
			t.Errorf("Text(%v) = %q, want %q", x.i, got, x.want)
		}
	}
}

// P1.3: what may not be has no text.
func TestTextOfNone(t *testing.T) {
	for _, i := range []api.Instr{{}, {Op: -1}, {Op: 25}, {Op: 97}, {Op: math.MaxInt}, {Op: api.Nop, A: 1}, {Op: api.Nop, Imm: 1}, {Op: api.Add, A: 16}, {Op: api.Br, C: 256}, {Op: api.Br, A: 1}, {Op: api.Li, A: -1}} {
		if got := isa.Text(i); got != "" {
			t.Errorf("Text(%v) = %q", i, got)
		}
	}
}
