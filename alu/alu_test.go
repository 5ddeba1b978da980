package alu_test

import (
	"math"
	"testing"

	"facade/alu"
	"facade/api"
)

const (
	most = math.MaxUint32
	high = 1 << 31
)

// row is what the chapter says of one instruction that reckons: which operands it has (r a register, - none: A, B and C
// in this order), whether it has a second word, and what register A becomes, reckoned in greater numbers.
type row struct {
	op   int
	name string
	has  string
	two  bool
	of   func(a, b, c, imm uint64) uint64
}

// span is one more than the greatest word: words go round there.
const span = 1 << 32

func rows() []row {
	return []row{
		{api.Nop, "nop", "---", false, func(a, b, c, imm uint64) uint64 { return a }},
		{api.Mov, "mov", "rr-", false, func(a, b, c, imm uint64) uint64 { return b }},
		{api.Add, "add", "rrr", false, func(a, b, c, imm uint64) uint64 { return (b + c) % span }},
		{api.Sub, "sub", "rrr", false, func(a, b, c, imm uint64) uint64 { return (span + b - c) % span }},
		{api.And, "and", "rrr", false, func(a, b, c, imm uint64) uint64 { return b & c }},
		{api.Or, "or", "rrr", false, func(a, b, c, imm uint64) uint64 { return b | c }},
		{api.Xor, "xor", "rrr", false, func(a, b, c, imm uint64) uint64 { return (b | c) - (b & c) }},
		{api.Shl, "shl", "rrr", false, func(a, b, c, imm uint64) uint64 { return b * power(c%32) % span }},
		{api.Shr, "shr", "rrr", false, func(a, b, c, imm uint64) uint64 { return b / power(c%32) }},
		{api.Lt, "lt", "rrr", false, func(a, b, c, imm uint64) uint64 { return (span+b-c)/span ^ 1 }},
		{api.Eq, "eq", "rrr", false, func(a, b, c, imm uint64) uint64 { return 1 >> ((b | c) - (b & c)) }},
		{api.Mul, "mul", "rrr", false, func(a, b, c, imm uint64) uint64 { return b * c % span }},
		{api.Li, "li", "r--", true, func(a, b, c, imm uint64) uint64 { return imm }},
		{api.La, "la", "r--", true, func(a, b, c, imm uint64) uint64 { return imm }},
	}
}

// power is 2 so many times.
func power(n uint64) uint64 {
	p := uint64(1)
	for range n {
		p *= 2
	}
	return p
}

// edgeWords are words at which the instructions could go wrong.
func edgeWords() []uint32 {
	return []uint32{0, 1, 2, 3, 5, 31, 32, 33, 63, 64, 255, 256, 1<<16 - 1, 1 << 16, 0x55555555, 0xaaaaaaaa, high - 1, high, high + 1, high + 31, most - 31, most - 1, most}
}

// unlike are registers of which no two are alike, and none is 0.
func unlike() api.Regs16 {
	var r api.Regs16
	for k := range r {
		r[k] = 0x9e3779b9*uint32(k+1) | 1
	}
	return r
}

// checkDo holds Do against what register A becomes; every other register stays, those handed in too.
func checkDo(t *testing.T, i api.Instr, r api.Regs16, a uint32) {
	t.Helper()
	before, want := r, r
	want[i.A] = a
	if got, ok := alu.Do(i, r); got != want || !ok {
		t.Errorf("Do(%v, %#x) = %#x, %v, want %#x", i, r, got, ok, want)
	}
	if r != before {
		t.Errorf("Do(%v) changed what was handed in", i)
	}
}

// checkDoNone holds that an instruction doesn't only reckon, or is none.
func checkDoNone(t *testing.T, i api.Instr, r api.Regs16) {
	t.Helper()
	if got, ok := alu.Do(i, r); got != (api.Regs16{}) || ok {
		t.Errorf("Do(%v) = %#x, %v, want none", i, got, ok)
	}
}

// checkTaken holds Taken against whether it jumps.
func checkTaken(t *testing.T, i api.Instr, r api.Regs16, want bool) {
	t.Helper()
	if got, ok := alu.Taken(i, r); got != want || !ok {
		t.Errorf("Taken(%v, %#x) = %v, %v, want %v", i, r, got, ok, want)
	}
}

// checkTakenNone holds that an instruction never jumps, or is none.
func checkTakenNone(t *testing.T, i api.Instr, r api.Regs16) {
	t.Helper()
	if got, ok := alu.Taken(i, r); got || ok {
		t.Errorf("Taken(%v) = %v, %v, want none", i, got, ok)
	}
}

// P4.1: of two registers, word by word.
func TestDoWords(t *testing.T) {
	for _, x := range []struct {
		op         int
		b, c, want uint32
	}{
		{api.Add, 2, 3, 5}, {api.Add, 0, 0, 0}, {api.Add, most, 0, most}, {api.Add, most, 1, 0}, {api.Add, most, most, most - 1},
		{api.Add, high, high, 0}, {api.Add, high - 1, 1, high}, {api.Add, 3, most, 2},
		{api.Sub, 5, 3, 2}, {api.Sub, 3, 5, most - 1}, {api.Sub, 0, 1, most}, {api.Sub, 0, most, 1}, {api.Sub, 7, 7, 0},
		{api.Sub, high, 1, high - 1}, {api.Sub, 0, high, high}, {api.Sub, high - 1, high, most},
		{api.And, 0xff00ff00, 0xf0f0f0f0, 0xf000f000}, {api.And, most, 0, 0}, {api.And, most, most, most}, {api.And, high, most, high},
		{api.Or, 0xff00ff00, 0xf0f0f0f0, 0xfff0fff0}, {api.Or, most, 0, most}, {api.Or, 0, 0, 0}, {api.Or, high, 1, high + 1},
		{api.Xor, 0xff00ff00, 0xf0f0f0f0, 0x0ff00ff0}, {api.Xor, most, most, 0}, {api.Xor, most, 0, most}, {api.Xor, high, 1, high + 1},
		{api.Shl, 3, 0, 3}, {api.Shl, 3, 1, 6}, {api.Shl, 3, 31, high}, {api.Shl, 3, 32, 3}, {api.Shl, 3, 33, 6}, {api.Shl, 3, 63, high},
		{api.Shl, 3, 64, 3}, {api.Shl, high, 1, 0}, {api.Shl, most, 31, high}, {api.Shl, most, most, high}, {api.Shl, 1, high, 1}, {api.Shl, 1, 256, 1},
		{api.Shr, 6, 0, 6}, {api.Shr, 6, 1, 3}, {api.Shr, high, 31, 1}, {api.Shr, high, 32, high}, {api.Shr, high, 33, high / 2}, {api.Shr, high, 63, 1},
		{api.Shr, most, 1, high - 1}, {api.Shr, 1, 1, 0}, {api.Shr, most, 31, 1}, {api.Shr, most, most, 1}, {api.Shr, 5, high, 5}, {api.Shr, 5, 256, 5},
		{api.Lt, 1, 2, 1}, {api.Lt, 2, 1, 0}, {api.Lt, 2, 2, 0}, {api.Lt, 0, most, 1}, {api.Lt, most, 0, 0}, {api.Lt, most, most, 0},
		{api.Lt, high - 1, high, 1}, {api.Lt, high, high - 1, 0}, {api.Lt, high, 1, 0}, {api.Lt, 1, high, 1}, {api.Lt, 0, 0, 0}, {api.Lt, most - 1, most, 1},
		{api.Eq, 5, 5, 1}, {api.Eq, 5, 6, 0}, {api.Eq, 0, 0, 1}, {api.Eq, most, most, 1}, {api.Eq, high, high, 1}, {api.Eq, high, 0, 0}, {api.Eq, 0, most, 0}, {api.Eq, 1, high + 1, 0},
		{api.Mul, 6, 7, 42}, {api.Mul, 0, most, 0}, {api.Mul, 1, most, most}, {api.Mul, 1 << 16, 1 << 16, 0}, {api.Mul, 1<<16 + 1, 1<<16 + 1, 1<<17 + 1},
		{api.Mul, high, 2, 0}, {api.Mul, high, 3, high}, {api.Mul, most, most, 1}, {api.Mul, most, 2, most - 1},
	} {
		r := unlike()
		r[7], r[12] = x.b, x.c
		checkDo(t, api.Instr{Op: x.op, A: 4, B: 7, C: 12}, r, x.want)
	}
}

// P4.1: of one register or of none.
func TestDoOthers(t *testing.T) {
	r := unlike()
	for _, w := range edgeWords() {
		r[3] = w
		checkDo(t, api.Instr{Op: api.Mov, A: 8, B: 3}, r, w)
		checkDo(t, api.Instr{Op: api.Mov, A: 0, B: 3}, r, w)
		checkDo(t, api.Instr{Op: api.Mov, A: 15, B: 3}, r, w)
		checkDo(t, api.Instr{Op: api.Mov, A: 3, B: 3}, r, w)
		checkDo(t, api.Instr{Op: api.Li, A: 3, Imm: ^w}, r, ^w)
		checkDo(t, api.Instr{Op: api.La, A: 3, Imm: ^w}, r, ^w)
		checkDo(t, api.Instr{Op: api.Li, A: 0, Imm: w}, r, w)
		checkDo(t, api.Instr{Op: api.La, A: 15, Imm: w}, r, w)
		r[0] = w
		checkDo(t, api.Instr{Op: api.Nop}, r, w)
	}
	checkDo(t, api.Instr{Op: api.Nop}, api.Regs16{}, 0)
	checkDo(t, api.Instr{Op: api.Mov, A: 15, B: 0}, r, r[0])
	checkDo(t, api.Instr{Op: api.Mov, A: 0, B: 15}, r, r[15])
}

// P4.1: each pair of edge words, held against greater numbers.
func TestDoEdgeWords(t *testing.T) {
	for _, x := range rows() {
		for _, b := range edgeWords() {
			for _, c := range edgeWords() {
				i, r := instr(x, 9, 0, 15, b^c), unlike()
				r[i.B], r[i.C] = b, c
				checkRow(t, x, i, r)
			}
		}
	}
}

// P4.1: each choice of registers, A the same as B or C, or all the same, too: just register A changes.
func TestDoRegisters(t *testing.T) {
	for _, x := range rows() {
		for a := range api.Regs {
			for b := range api.Regs {
				for c := range api.Regs {
					checkRow(t, x, instr(x, a, b, c, 0xc0ffee), unlike())
				}
			}
		}
	}
}

// instr is an instruction of a row: of the operands, those that it has.
func instr(x row, a, b, c int, imm uint32) api.Instr {
	i := api.Instr{Op: x.op}
	for k, to := range []*int{&i.A, &i.B, &i.C} {
		if x.has[k] == 'r' {
			*to = []int{a, b, c}[k]
		}
	}
	if x.two {
		i.Imm = imm
	}
	return i
}

// checkRow holds Do of one instruction against its row.
func checkRow(t *testing.T, x row, i api.Instr, r api.Regs16) {
	t.Helper()
	want := x.of(uint64(r[i.A]), uint64(r[i.B]), uint64(r[i.C]), uint64(i.Imm))
	if want >= span {
		t.Fatalf("%s: the test's own number %#x is no word", x.name, want)
	}
	checkDo(t, i, r, uint32(want))
}

// P4.1: what is answered hangs on nothing that was done before.
func TestDoAgain(t *testing.T) {
	i, r := api.Instr{Op: api.Add, A: 1, B: 1, C: 2}, api.Regs16{1: 3, 2: 4}
	for range 3 {
		checkDo(t, i, r, 7)
	}
	once, _ := alu.Do(i, r)
	checkDo(t, i, once, 11)
	checkDo(t, api.Instr{Op: api.Nop}, r, 0)
}

// jump is what the chapter says of one instruction that may jump: its operands (n a number), and whether it is taken
// where register A is 0, and where it is not.
type jump struct {
	op          int
	has         string
	two         bool
	zero, other bool
}

func jumps() []jump {
	return []jump{
		{api.Br, "--n", false, true, true},
		{api.Brz, "r-n", false, true, false},
		{api.Brn, "r-n", false, false, true},
		{api.Jmp, "---", true, true, true},
		{api.Jz, "r--", true, true, false},
		{api.Jn, "r--", true, false, true},
		{api.Call, "---", true, true, true},
		{api.Jr, "r--", false, true, true},
	}
}

// jumping is an instruction of a jump: of the operands, those that it has.
func jumping(j jump, a, c int, imm uint32) api.Instr {
	i := api.Instr{Op: j.op}
	if j.has[0] == 'r' {
		i.A = a
	}
	if j.has[2] == 'n' {
		i.C = c
	}
	if j.two {
		i.Imm = imm
	}
	return i
}

// P4.2: each jump by each register, whatever the others hold, however far it goes.
func TestTaken(t *testing.T) {
	for _, j := range jumps() {
		for a := range api.Regs {
			for _, c := range []int{0, 1, 15, 16, 127, 128, 255} {
				for _, w := range edgeWords() {
					i := jumping(j, a, c, w)
					want := j.other
					if w == 0 {
						want = j.zero
					}
					r := unlike()
					r[a] = w
					checkTaken(t, i, r, want)
					r = api.Regs16{}
					r[a] = w
					checkTaken(t, i, r, want)
				}
			}
		}
	}
}

// P4.2: one bit is enough for a register not to be 0, whichever it is.
func TestTakenByEachBit(t *testing.T) {
	for bit := range 32 {
		r := api.Regs16{6: 1 << bit}
		for _, j := range jumps() {
			checkTaken(t, jumping(j, 6, 3, 2048), r, j.other)
			checkTaken(t, jumping(j, 5, 6, 2048), r, j.zero)
		}
	}
}

// P4.2: A is a register's number, not the word that is asked.
func TestTakenAsksRegister(t *testing.T) {
	for _, op := range []int{api.Brz, api.Jz} {
		checkTaken(t, api.Instr{Op: op, A: 0}, api.Regs16{0: 9}, false)
		checkTaken(t, api.Instr{Op: op, A: 15}, api.Regs16{0: 9}, true)
	}
	for _, op := range []int{api.Brn, api.Jn} {
		checkTaken(t, api.Instr{Op: op, A: 0}, api.Regs16{0: 9}, true)
		checkTaken(t, api.Instr{Op: op, A: 15}, api.Regs16{0: 9}, false)
	}
}

// edgeOperands are numbers that are operands or not, such ones too that are a register's when they are cut.
func edgeOperands() []int {
	return []int{math.MinInt, -1 << 32, -256, -16, -1, 0, 1, 15, 16, 255, 256, 1 << 32, math.MaxInt}
}

// allOps are all numbers that could be an instruction's, and others that are when they are cut.
func allOps() []int {
	ops := []int{math.MinInt, math.MinInt + api.Add, -256 + api.Nop, -256 + api.Br, 256 + api.Mov, 256 + api.Jmp, 1<<16 + api.Add, 1<<32 + api.Add, 1<<32 + api.Jr, -1<<32 + api.Br, math.MaxInt}
	for op := -2; op < 258; op++ {
		ops = append(ops, op)
	}
	return ops
}

// shape is which operands an instruction has, and whether it has a second word.
type shape struct {
	has string
	two bool
}

// allows tells whether the shape has these operands: what it doesn't have is 0.
func (s shape) allows(i api.Instr) bool {
	for k, n := range []int{i.A, i.B, i.C} {
		if !within(s.has[k], n) {
			return false
		}
	}
	return s.two || i.Imm == 0
}

// within tells whether an operand of that kind may be n.
func within(kind byte, n int) bool {
	switch kind {
	case 'r':
		return n >= 0 && n <= 15
	case 'n':
		return n >= 0 && n <= 255
	}
	return n == 0
}

// everyInstr goes through all numbers of instructions, with operands at their edges.
func everyInstr(each func(api.Instr)) {
	for _, op := range allOps() {
		for _, a := range edgeOperands() {
			for _, b := range edgeOperands() {
				for _, c := range edgeOperands() {
					for _, imm := range []uint32{0, 1, most} {
						each(api.Instr{Op: op, A: a, B: b, C: c, Imm: imm})
					}
				}
			}
		}
	}
}

// P4.1: of whatever is handed in: just those that the sentence names, and that may be, are done.
func TestDoWhatever(t *testing.T) {
	byOp := map[int]row{}
	for _, x := range rows() {
		byOp[x.op] = x
	}
	r := unlike()
	everyInstr(func(i api.Instr) {
		x, is := byOp[i.Op]
		if is && (shape{x.has, x.two}).allows(i) {
			checkRow(t, x, i, r)
		} else {
			checkDoNone(t, i, r)
		}
	})
}

// P4.2: of whatever is handed in: just those that isa's Jumps has, and that may be, are asked.
func TestTakenWhatever(t *testing.T) {
	byOp := map[int]jump{}
	for _, j := range jumps() {
		byOp[j.op] = j
	}
	r := unlike()
	everyInstr(func(i api.Instr) {
		j, is := byOp[i.Op]
		if is && (shape{j.has, j.two}).allows(i) {
			checkTaken(t, i, r, j.other)
		} else {
			checkTakenNone(t, i, r)
		}
	})
}

// P4.1: instructions that are there, and are none of those: those that touch memory, that jump, trap, say nothing, call.
func TestDoNoneOfThese(t *testing.T) {
	r := unlike()
	for _, i := range []api.Instr{
		{Op: api.Ld, A: 1, B: 2, C: 3}, {Op: api.Ld, A: 1, B: 2, C: 255}, {Op: api.St, A: 1, B: 2, C: 3}, {Op: api.St, C: 16},
		{Op: api.Br, C: 200}, {Op: api.Brz, A: 1, C: 200}, {Op: api.Brn, A: 1}, {Op: api.Jmp, Imm: 2048}, {Op: api.Jz, A: 1, Imm: 2048},
		{Op: api.Jn, A: 1}, {Op: api.Call, Imm: 2048}, {Op: api.Jr, A: 1},
		{Op: api.Halt, A: 1}, {Op: api.Rti}, {Op: api.In, A: 1}, {Op: api.Gtm, A: 1}, {Op: api.Spte, A: 1, B: 2}, {Op: api.Sync}, {Op: api.Gcs, A: 1}, {Op: api.Gfa, A: 1},
		{Op: api.Cli}, {Op: api.Sti}, {Op: api.Gst, A: 1}, {Op: api.Sst, A: 1}, {Op: api.Hc, Imm: 1},
	} {
		checkDoNone(t, i, r)
	}
}

// P4.2: instructions that are there, and never jump.
func TestTakenNoneOfThese(t *testing.T) {
	r := unlike()
	for _, i := range []api.Instr{
		{Op: api.Nop}, {Op: api.Mov, A: 1, B: 2}, {Op: api.Add, A: 1, B: 2, C: 3}, {Op: api.Eq}, {Op: api.Mul}, {Op: api.Li, A: 1, Imm: 2048}, {Op: api.La, A: 1, Imm: 2048},
		{Op: api.Ld, A: 1, B: 2, C: 255}, {Op: api.St, A: 1, B: 2, C: 255}, {Op: api.Halt}, {Op: api.Rti}, {Op: api.Cli}, {Op: api.Sst, A: 1}, {Op: api.Hc, Imm: 1},
	} {
		checkTakenNone(t, i, r)
	}
}

// P4.1, P4.2: instructions that may not be, one fault each.
func TestMayNotBe(t *testing.T) {
	for _, r := range []api.Regs16{{}, unlike()} {
		for _, i := range []api.Instr{
			{Op: api.Nop, A: 1}, {Op: api.Nop, B: 1}, {Op: api.Nop, C: 1}, {Op: api.Nop, Imm: 1},
			{Op: api.Mov, A: 16}, {Op: api.Mov, B: 16}, {Op: api.Mov, B: -1}, {Op: api.Mov, C: 1}, {Op: api.Mov, Imm: 1},
			{Op: api.Add, A: 16}, {Op: api.Add, A: -1}, {Op: api.Add, B: 16}, {Op: api.Add, C: 16}, {Op: api.Add, C: 255}, {Op: api.Add, Imm: 1}, {Op: api.Mul, C: -1},
			{Op: api.Li, A: 16}, {Op: api.Li, B: 1}, {Op: api.La, C: 1}, {Op: api.La, A: -1},
			{Op: api.Br, C: 256}, {Op: api.Br, C: -1}, {Op: api.Br, A: 1}, {Op: api.Br, B: 1}, {Op: api.Br, Imm: 1},
			{Op: api.Brz, A: 16}, {Op: api.Brz, B: 1}, {Op: api.Brn, C: 256}, {Op: api.Brn, Imm: 1}, {Op: api.Brn, A: -1},
			{Op: api.Jmp, A: 1}, {Op: api.Jmp, C: 1}, {Op: api.Jz, A: 16}, {Op: api.Jn, A: -1}, {Op: api.Jn, C: 1}, {Op: api.Call, A: 15}, {Op: api.Jr, A: 16}, {Op: api.Jr, Imm: 1}, {Op: api.Jr, C: 1},
			{}, {Op: -1}, {Op: 25}, {Op: 31}, {Op: 45}, {Op: 63}, {Op: 68}, {Op: 95}, {Op: 97}, {Op: 255}, {Op: 256 + api.Add}, {Op: 256 + api.Br}, {Op: math.MinInt}, {Op: math.MaxInt},
		} {
			checkDoNone(t, i, r)
			checkTakenNone(t, i, r)
		}
	}
}
