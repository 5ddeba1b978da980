package site_test

import (
	"slices"
	"testing"

	"facade/api"
	"facade/isa"
	"facade/obj"
	"facade/site"
)

const alone = -1 // the place of an error without a place

// w is an instruction's word.
func w(op, a, b, c int) uint32 { return uint32(op)<<24 | uint32(a)<<16 | uint32(b)<<8 | uint32(c) }

// piece is something that may stand in Code: its words, what Map says of them, the kind of the relocation of its last
// word (0: none), the class of the site that it is (0: it is none), the instruction, its line.
type piece struct {
	words []uint32
	marks []byte
	kind  int
	class int
	in    api.Instr
	line  string
}

// one is an instruction of one word, which is a site of that class.
func one(class, op, a, b, c int, line string) piece {
	p := piece{words: []uint32{w(op, a, b, c)}, marks: []byte{1}, class: class, in: api.Instr{Op: op, A: a, B: b, C: c}, line: line}
	if op == api.Br || op == api.Brz || op == api.Brn {
		p.kind = api.Branch
	}
	return p
}

// two is an instruction of two words, repaired or not.
func two(kind, op, a int, imm uint32, line string) piece {
	return piece{words: []uint32{w(op, a, 0, 0), imm}, marks: []byte{1, 0}, kind: kind, in: api.Instr{Op: op, A: a, Imm: imm}, line: line}
}

// table is a table's word, repaired or not.
func table(kind int, word uint32, line string) piece {
	return piece{words: []uint32{word}, marks: []byte{2}, kind: kind, line: line}
}

// innocuous are the instructions of one word that are no sites.
func innocuous() []piece {
	return []piece{
		one(0, api.Nop, 0, 0, 0, "nop"),
		one(0, api.Mov, 15, 1, 0, "mov r15 r1"),
		one(0, api.Add, 1, 2, 3, "add r1 r2 r3"),
		one(0, api.Sub, 4, 5, 6, "sub r4 r5 r6"),
		one(0, api.And, 7, 8, 9, "and r7 r8 r9"),
		one(0, api.Or, 10, 11, 12, "or r10 r11 r12"),
		one(0, api.Xor, 13, 14, 15, "xor r13 r14 r15"),
		one(0, api.Shl, 0, 1, 2, "shl r0 r1 r2"),
		one(0, api.Shr, 3, 4, 5, "shr r3 r4 r5"),
		one(0, api.Lt, 6, 7, 8, "lt r6 r7 r8"),
		one(0, api.Eq, 9, 10, 11, "eq r9 r10 r11"),
		one(0, api.Ld, 12, 13, 255, "ld r12 r13 255"),
		one(0, api.St, 14, 15, 16, "st r14 r15 16"),
		one(0, api.Br, 0, 0, 255, "br 255"),
		one(0, api.Brz, 1, 0, 128, "brz r1 128"),
		one(0, api.Brn, 2, 0, 0, "brn r2 0"),
		one(0, api.Jr, 15, 0, 0, "jr r15"),
		one(0, api.Mul, 0, 15, 0, "mul r0 r15 r0"),
	}
}

// sites are the instructions that have to be rewritten.
func sites() []piece {
	return []piece{
		one(isa.Trapping, api.Halt, 1, 0, 0, "halt r1"),
		one(isa.Trapping, api.Stv, 2, 0, 0, "stv r2"),
		one(isa.Trapping, api.Rti, 0, 0, 0, "rti"),
		one(isa.Trapping, api.Out, 3, 0, 0, "out r3"),
		one(isa.Trapping, api.In, 4, 0, 0, "in r4"),
		one(isa.Trapping, api.Bwr, 5, 6, 0, "bwr r5 r6"),
		one(isa.Trapping, api.Brd, 7, 8, 0, "brd r7 r8"),
		one(isa.Trapping, api.Tmr, 9, 0, 0, "tmr r9"),
		one(isa.Trapping, api.Gtm, 10, 0, 0, "gtm r10"),
		one(isa.Trapping, api.Spte, 11, 12, 0, "spte r11 r12"),
		one(isa.Trapping, api.Sync, 0, 0, 0, "sync"),
		one(isa.Trapping, api.Gcs, 13, 0, 0, "gcs r13"),
		one(isa.Trapping, api.Gfa, 14, 0, 0, "gfa r14"),
		one(isa.Silent, api.Cli, 0, 0, 0, "cli"),
		one(isa.Silent, api.Sti, 0, 0, 0, "sti"),
		one(isa.Silent, api.Gst, 15, 0, 0, "gst r15"),
		one(isa.Silent, api.Sst, 6, 0, 0, "sst r6"),
	}
}

// wide are the instructions of two words, with second words that are anything, a site's too.
func wide() []piece {
	return []piece{
		two(0, api.Li, 1, 0, "li r1 0x0"),
		two(0, api.Li, 2, w(api.Halt, 1, 0, 0), "li r2 0x20010000"),
		two(api.Word, api.Li, 15, w(api.Cli, 0, 0, 0), "li r15 0x40000000"),
		two(api.Word, api.La, 3, 0xffffffff, "la r3 0xffffffff"),
		two(api.Word, api.Jmp, 0, 0x801, "jmp 0x801"),
		two(api.Word, api.Jz, 4, 10, "jz r4 0xa"),
		two(api.Word, api.Jn, 5, w(api.Spte, 1, 2, 0), "jn r5 0x29010200"),
		two(api.Word, api.Call, 0, w(api.Hc, 0, 0, 0), "call 0x60000000"),
	}
}

// tables are words of tables, such as would be sites too.
func tables() []piece {
	return []piece{
		table(0, 0, "word 0x0"),
		table(0, 7, "word 0x7"),
		table(0, 0xa, "word 0xa"),
		table(api.Word, 0xabcdef, "word 0xabcdef"),
		table(0, 0x10, "word 0x10"),
		table(0, 0x0f00000f, "word 0xf00000f"),
		table(0, 0x12345678, "word 0x12345678"),
		table(0, 0x9abcdef0, "word 0x9abcdef0"),
		table(0, 0xffffffff, "word 0xffffffff"),
		table(api.Word, w(api.Halt, 1, 0, 0), "word 0x20010000"),
		table(0, w(api.Sst, 3, 0, 0), "word 0x43030000"),
		table(0, w(api.Li, 3, 0, 0), "word 0xe030000"),
		table(0, w(api.Hc, 0, 0, 0), "word 0x60000000"),
	}
}

// pieces are all of them.
func pieces() []piece { return slices.Concat(innocuous(), sites(), wide(), tables()) }

// told is what has to be told of an object.
type told struct {
	starts []int
	sites  []site.Site
	lines  []string
}

// laid is an object of these pieces one behind the other, and what has to be told of it.
func laid(l ...piece) (api.Object, told) {
	o := api.Object{Syms: []api.Sym{{Name: "far", In: api.Absent, Global: true}}}
	var all told
	for _, p := range l {
		at := len(o.Code)
		if p.marks[0] == 1 {
			all.starts = append(all.starts, at)
		}
		if p.class != 0 {
			all.sites = append(all.sites, site.Site{At: at, Class: p.class, In: p.in})
		}
		all.lines = append(all.lines, p.line)
		o.Code = append(o.Code, p.words...)
		o.Map = append(o.Map, p.marks...)
		if p.kind != 0 {
			o.CRels = append(o.CRels, api.Reloc{At: len(o.Code) - 1, Kind: p.kind})
		}
	}
	return o, all
}

// check holds all three calls of a valid object, and that they change nothing of it.
func check(t *testing.T, what string, o api.Object, want told) {
	t.Helper()
	was := obj.Clone(o)
	checkStarts(t, what, o, want.starts)
	if l, err := site.Sites(o); err != nil || !slices.Equal(l, want.sites) {
		t.Errorf("%s: Sites: %v, %v, want %v", what, l, err, want.sites)
	}
	if l, err := site.Text(o); err != nil || !slices.Equal(l, want.lines) {
		t.Errorf("%s: Text: %q, %v, want %q", what, l, err, want.lines)
	}
	if !obj.Same(o, was) {
		t.Errorf("%s: the object is %v, was %v", what, o, was)
	}
}

func checkStarts(t *testing.T, what string, o api.Object, want []int) {
	t.Helper()
	if l := site.Starts(o); !slices.Equal(l, want) {
		t.Errorf("%s: Starts: %v, want %v", what, l, want)
	}
}

// checkLaid holds all three calls of pieces one behind the other.
func checkLaid(t *testing.T, what string, l ...piece) {
	t.Helper()
	o, want := laid(l...)
	check(t, what, o, want)
}

// P10.1, the chapter's example: of an empty object: none.
func TestP10_1Empty(t *testing.T) {
	check(t, "the zero value", api.Object{}, told{})
	check(t, "empty lists", api.Object{Data: []uint32{}, Code: []uint32{}, Map: []byte{}, DRels: []api.Reloc{}, CRels: []api.Reloc{}, Syms: []api.Sym{}}, told{})
	check(t, "data alone", api.Object{
		Data:  []uint32{w(api.Halt, 1, 0, 0), w(api.Cli, 0, 0, 0)},
		DRels: []api.Reloc{{At: 1, Kind: api.Word, Add: 1}},
		Syms:  []api.Sym{{Name: "d", In: api.InData, Value: 1}},
	}, told{})
}

// P10.1: each operation that may be in an object by itself: no less and no more of them are sites.
func TestP10_1Each(t *testing.T) {
	ops := 0
	for op := range 256 {
		in := func(p piece) bool { return p.in.Op == op && p.marks[0] == 1 }
		if c := isa.Tables().Class(op); c == 0 || c == isa.Calling {
			continue
		}
		ops++
		if !slices.ContainsFunc(pieces(), in) {
			t.Errorf("operation %d is not among the pieces", op)
		}
	}
	if ops != 41 {
		t.Errorf("%d operations", ops)
	}
	for _, p := range pieces() {
		checkLaid(t, p.line, p)
	}
}

// P10.1: each behind each, the first and the last of Code.
func TestP10_1Pairs(t *testing.T) {
	for _, p := range pieces() {
		for _, q := range pieces() {
			checkLaid(t, p.line+", "+q.line, p, q)
		}
	}
}

// P10.1: all of them, in both orders, and each between others.
func TestP10_1InOrder(t *testing.T) {
	l := pieces()
	checkLaid(t, "all", l...)
	slices.Reverse(l)
	checkLaid(t, "all, the last first", l...)
	for k, p := range l {
		checkLaid(t, p.line+" among all", append(l[:k:k], append([]piece{p, p}, l[k:]...)...)...)
	}
}

// P10.1: code in which nothing has to be rewritten has no sites.
func TestP10_1NoSites(t *testing.T) {
	o, want := laid(slices.Concat(innocuous(), wide(), tables())...)
	if len(want.sites) != 0 {
		t.Fatalf("%d sites are wanted", len(want.sites))
	}
	check(t, "no sites", o, want)
}

// P10.1: each register and each choice of two of them, of the instructions that have them.
func TestP10_1Registers(t *testing.T) {
	for _, p := range sites() {
		if p.in.A == 0 { // it has none
			continue
		}
		for a := range 16 {
			for b := range 16 {
				if p.in.B == 0 && b > 0 {
					break
				}
				in := api.Instr{Op: p.in.Op, A: a, B: b}
				o := api.Object{Code: []uint32{w(in.Op, a, b, 0)}, Map: []byte{1}}
				l, err := site.Sites(o)
				if want := []site.Site{{At: 0, Class: p.class, In: in}}; err != nil || !slices.Equal(l, want) {
					t.Errorf("Sites: %v, %v, want %v", l, err, want)
				}
			}
		}
	}
}

// P10.1: as many as there may be.
func TestP10_1Longest(t *testing.T) {
	for _, p := range []piece{sites()[0], sites()[13], innocuous()[0], wide()[0], tables()[0]} {
		checkLaid(t, p.line+" in all of Code", slices.Repeat([]piece{p}, api.MaxWords/len(p.words))...)
	}
}

// P10.1: what is to be repaired stands as it stands, whatever it is repaired by; data and symbols count for nothing.
func TestP10_1AsItStands(t *testing.T) {
	o := api.Object{
		Data: []uint32{1, 2, 3},
		Code: []uint32{
			w(api.La, 1, 0, 0), 0x7fffffff, // 0
			w(api.Brz, 2, 0, 200),                         // 2
			w(api.Call, 0, 0, 0), w(api.Out, 9, 0, 0) | 5, // 3
			w(api.Gst, 3, 0, 0),                     // 5
			0xc0ffee,                                // 6, a table
			w(api.Li, 4, 0, 0), w(api.Cli, 0, 0, 0), // 7
			w(api.Br, 0, 0, 1), // 9
		},
		Map:   []byte{1, 0, 1, 1, 0, 1, 2, 1, 0, 1},
		DRels: []api.Reloc{{At: 2, Kind: api.Word, Sym: 1, Add: 3}},
		CRels: []api.Reloc{
			{At: 1, Kind: api.Word, Sym: 1, Add: 65536}, {At: 2, Kind: api.Branch, Sym: 0}, {At: 4, Kind: api.Word, Sym: 0},
			{At: 6, Kind: api.Word, Sym: 1, Add: -65536}, {At: 8, Kind: api.Word, Sym: 2}, {At: 9, Kind: api.Branch, Sym: 2},
		},
		Syms: []api.Sym{{Name: "here", In: api.InCode, Value: 5}, {Name: "d", In: api.InData, Value: 2}, {Name: "far", In: api.Absent, Global: true}},
	}
	check(t, "all repaired", o, told{
		starts: []int{0, 2, 3, 5, 7, 9},
		sites:  []site.Site{{At: 5, Class: isa.Silent, In: api.Instr{Op: api.Gst, A: 3}}},
		lines:  []string{"la r1 0x7fffffff", "brz r2 200", "call 0x23090005", "gst r3", "word 0xc0ffee", "li r4 0x40000000", "br 1"},
	})
}
