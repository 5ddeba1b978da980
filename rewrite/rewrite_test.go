package rewrite_test

import (
	"fmt"
	"slices"
	"strconv"
	"testing"

	"facade/api"
	"facade/isa"
	"facade/obj"
	"facade/rewrite"
)

const alone = -1 // the place of an error without a place

// w is an instruction's word.
func w(op, a, b, c int) uint32 { return uint32(op)<<24 | uint32(a)<<16 | uint32(b)<<8 | uint32(c) }

// hc is the word of a call of the monitor.
const hc = 0x60000000

// piece is something that may stand in Code: its words, what Map says of them, the kind of the relocation of its last
// word (0: none), whether it has to be rewritten.
type piece struct {
	what   string
	words  []uint32
	marks  []byte
	kind   int
	change bool
}

// registers are the operations that have to be rewritten, and how many registers each has.
func registers() map[int]int {
	return map[int]int{
		api.Halt: 1, api.Stv: 1, api.Rti: 0, api.Out: 1, api.In: 1, api.Bwr: 2, api.Brd: 2, api.Tmr: 1, api.Gtm: 1, api.Spte: 2,
		api.Sync: 0, api.Gcs: 1, api.Gfa: 1,
		api.Cli: 0, api.Sti: 0, api.Gst: 1, api.Sst: 1,
	}
}

// instruction is the piece of an operation, with operands wherever it has some, and a second word such as would have to
// be rewritten, where it has one.
func instruction(op int) piece {
	p := piece{what: "operation " + strconv.Itoa(op), marks: []byte{1}}
	for _, word := range []uint32{w(op, 1, 2, 3), w(op, 1, 2, 0), w(op, 1, 0, 3), w(op, 0, 0, 3), w(op, 1, 0, 0), w(op, 0, 0, 0)} {
		if in, is := isa.Of(word, 0); is && in.Op == op {
			p.words = []uint32{word}
			break
		}
	}
	_, p.change = registers()[op]
	switch {
	case isa.Tables().Two(op):
		p.words, p.marks, p.kind = append(p.words, w(api.Cli, 0, 0, 0)), append(p.marks, 0), api.Word
	case op == api.Br || op == api.Brz || op == api.Brn:
		p.kind = api.Branch
	}
	return p
}

// instructions are the pieces of all operations that an object may have.
func instructions() []piece {
	var l []piece
	for op := range 256 {
		if c := isa.Tables().Class(op); c != 0 && c != isa.Calling {
			l = append(l, instruction(op))
		}
	}
	return l
}

// tables are words of tables, such as would have to be rewritten too, or have a second word, and an li that isn't
// repaired.
func tables() []piece {
	l := []piece{{what: "li", words: []uint32{w(api.Li, 15, 0, 0), w(api.Halt, 1, 0, 0)}, marks: []byte{1, 0}}}
	for _, word := range []uint32{0, w(api.Halt, 1, 0, 0), w(api.Sti, 0, 0, 0), w(api.La, 1, 0, 0), hc, 0xffffffff} {
		what := "table of " + strconv.FormatUint(uint64(word), 16)
		l = append(l, piece{what, []uint32{word}, []byte{2}, 0, false}, piece{what + ", repaired", []uint32{word}, []byte{2}, api.Word, false})
	}
	return l
}

// pieces are all of them.
func pieces() []piece { return append(instructions(), tables()...) }

// told is what Do has to tell.
type told struct {
	object api.Object
	places []int
}

// laid is an object of these pieces one behind the other, and what has to be told of it. Symbols stand in data, in
// none, and in code, one where each instruction begins, as long as there may be more.
func laid(l ...piece) (api.Object, told) {
	o := api.Object{
		Data:  []uint32{w(api.Cli, 0, 0, 0), 1, 2, 3},
		DRels: []api.Reloc{{At: 0, Kind: api.Word, Sym: 1, Add: 3}, {At: 2, Kind: api.Word, Sym: 0}},
		Syms:  []api.Sym{{Name: "far", In: api.Absent, Global: true}, {Name: "d", In: api.InData, Value: 3}, {Name: "e", In: api.InData}},
	}
	p := obj.Clone(o)
	var places []int
	for k, x := range l {
		if x.marks[0] == 1 && len(o.Syms) < api.MaxSyms {
			s := api.Sym{Name: "s" + strconv.Itoa(k), In: api.InCode, Value: len(o.Code), Global: k%2 == 0}
			o.Syms = append(o.Syms, s)
			s.Value = len(p.Code)
			p.Syms = append(p.Syms, s)
		}
		for k := range x.words {
			places = append(places, len(p.Code)+k)
		}
		o.Code, o.Map = append(o.Code, x.words...), append(o.Map, x.marks...)
		if x.change {
			p.Code, p.Map = append(p.Code, hc, 0x80000000|x.words[0]), append(p.Map, 1, 0)
		} else {
			p.Code, p.Map = append(p.Code, x.words...), append(p.Map, x.marks...)
		}
		if x.kind != 0 {
			r := api.Reloc{At: len(o.Code) - 1, Kind: x.kind, Sym: k % 2 * (len(o.Syms) - 1)}
			if o.Syms[r.Sym].In == api.InData {
				r.Sym = 0
			}
			o.CRels = append(o.CRels, r)
			r.At = len(p.Code) - 1
			p.CRels = append(p.CRels, r)
		}
	}
	return o, told{p, append(places, len(p.Code))}
}

// check holds Do and Needs of a valid object, what obj.Valid tells of what comes out, and that nothing of the object is
// changed.
func check(t *testing.T, what string, o api.Object, want told) {
	t.Helper()
	was := obj.Clone(o)
	p, places, err := rewrite.Do(o)
	if err != nil || !obj.Same(p, want.object) || !slices.Equal(places, want.places) {
		t.Errorf("%s: Do: %v, want %s", what, err, firstDifference(told{p, places}, want))
	}
	if n, err := rewrite.Needs(o); n != len(want.object.Code) || err != nil {
		t.Errorf("%s: Needs: %d, %v, want %d", what, n, err, len(want.object.Code))
	}
	if len(p.Code) > 2*len(o.Code) {
		t.Errorf("%s: %d words of %d", what, len(p.Code), len(o.Code))
	}
	if !obj.Same(o, was) {
		t.Errorf("%s: the object was changed: %s", what, firstDifference(told{object: o}, told{object: was}))
	}
	checkBehind(t, what, p)
}

// firstDifference tells where what Do told goes apart from what it has to tell.
func firstDifference(got, want told) string {
	a, b := parts(got), parts(want)
	for k := range min(len(a), len(b)) {
		if a[k] != b[k] {
			return b[k] + ", not " + a[k]
		}
	}
	return strconv.Itoa(len(b)) + " parts, not " + strconv.Itoa(len(a))
}

// parts are the words, relocations, symbols and places of what Do told, as texts.
func parts(x told) []string {
	var l []string
	for at, word := range x.object.Data {
		l = append(l, fmt.Sprintf("data %d %#x", at, word))
	}
	for at, word := range x.object.Code {
		l = append(l, fmt.Sprintf("code %d %#x", at, word))
	}
	for at, m := range x.object.Map {
		l = append(l, fmt.Sprintf("map %d %d", at, m))
	}
	for k, r := range append(slices.Clone(x.object.DRels), x.object.CRels...) {
		l = append(l, fmt.Sprintf("relocation %d %v", k, r))
	}
	for k, s := range x.object.Syms {
		l = append(l, fmt.Sprintf("symbol %d %v", k, s))
	}
	for at, to := range x.places {
		l = append(l, fmt.Sprintf("place %d %d", at, to))
	}
	return l
}

// checkBehind holds that obj.Valid tells no error of what was rewritten but ErrOp of the first Hc: none, once another
// instruction of two words stands in the place of each.
func checkBehind(t *testing.T, what string, p api.Object) {
	t.Helper()
	p = obj.Clone(p)
	pos, want := alone, error(nil)
	for at, m := range p.Map {
		if m != 1 || p.Code[at] != hc {
			continue
		}
		if want == nil {
			pos, want = at, api.ErrOp
		}
	}
	checkError(t, what+": Valid of what comes out", obj.Valid(p), pos, want)
	for at, m := range p.Map {
		if m == 1 && p.Code[at] == hc {
			p.Code[at] = w(api.Li, 0, 0, 0)
		}
	}
	checkError(t, what+": Valid without any Hc", obj.Valid(p), alone, nil)
}

// checkError holds an error against the one that it has to be: a sentinel itself, or an At just around it.
func checkError(t *testing.T, what string, err error, pos int, want error) {
	t.Helper()
	got, at := err, alone
	if e, is := err.(*api.At); is {
		got, at = e.Err, e.Pos
	}
	if got != want || at != pos {
		t.Errorf("%s: error %v, want %v at %d", what, err, want, pos)
	}
}

// checkLaid holds all calls of pieces one behind the other.
func checkLaid(t *testing.T, what string, l ...piece) {
	t.Helper()
	o, want := laid(l...)
	check(t, what, o, want)
}

// P11.1, the chapter's example: of an empty object: an empty one; behind no words there are none.
func TestP11_1Empty(t *testing.T) {
	check(t, "the zero value", api.Object{}, told{places: []int{0}})
	check(t, "empty lists", api.Object{Data: []uint32{}, Code: []uint32{}, Map: []byte{}, DRels: []api.Reloc{}, CRels: []api.Reloc{}, Syms: []api.Sym{}}, told{places: []int{0}})
	o := api.Object{
		Data:  []uint32{w(api.Halt, 1, 0, 0), w(api.Cli, 0, 0, 0)},
		DRels: []api.Reloc{{At: 1, Kind: api.Word, Add: 1}},
		Syms:  []api.Sym{{Name: "d", In: api.InData, Value: 1}},
	}
	check(t, "data alone", o, told{obj.Clone(o), []int{0}})
}

// P11.1: each operation that may be in an object, and each table's word, by itself.
func TestP11_1Each(t *testing.T) {
	changes := 0
	for _, p := range pieces() {
		checkLaid(t, p.what, p)
		if p.change {
			changes++
		}
	}
	if len(instructions()) != 41 || changes != 17 {
		t.Errorf("%d operations, %d of them have to be rewritten", len(instructions()), changes)
	}
}

// P11.1: each behind each, the first and the last of Code.
func TestP11_1Pairs(t *testing.T) {
	for _, p := range pieces() {
		for _, q := range pieces() {
			checkLaid(t, p.what+", "+q.what, p, q)
		}
	}
}

// P11.1: all of them, in both orders; each twice among all others; each between two that have to be rewritten.
func TestP11_1InOrder(t *testing.T) {
	l := pieces()
	checkLaid(t, "all", l...)
	slices.Reverse(l)
	checkLaid(t, "all, the last first", l...)
	halt, cli := instruction(api.Halt), instruction(api.Cli)
	for k, p := range l {
		checkLaid(t, p.what+" among all", slices.Concat(l[:k], []piece{p, p}, l[k:])...)
		checkLaid(t, p.what+" between two", halt, p, cli)
		checkLaid(t, p.what+" between others", cli, halt, p, p, cli, cli, p, halt)
	}
}

// P11.1, P11.2: an object in which nothing has to be rewritten comes out as it is, each word where it is.
func TestP11_1Nothing(t *testing.T) {
	l := slices.DeleteFunc(pieces(), func(p piece) bool { return p.change })
	o, want := laid(l...)
	if !obj.Same(o, want.object) || len(o.Code) != 24+6+2+12 {
		t.Fatalf("%v is wanted of %v", want, o)
	}
	check(t, "nothing", o, want)
	if err := obj.Valid(want.object); err != nil {
		t.Error(err)
	}
}

// P11.1: each register, and each two of them, of the operations that have them.
func TestP11_1Registers(t *testing.T) {
	for op, n := range registers() {
		for a := range 16 {
			for b := range 16 {
				if n < 2 && b > 0 || n < 1 && a > 0 {
					continue
				}
				checkLaid(t, "registers", piece{words: []uint32{w(op, a, b, 0)}, marks: []byte{1}, change: true})
			}
		}
	}
}

// mixed is a valid object of each kind of all that one can have, with words to be rewritten as the first and the last,
// side by side, and around all else.
func mixed() api.Object {
	return api.Object{
		Data: []uint32{1, w(api.Cli, 0, 0, 0)},
		Code: []uint32{
			w(api.Halt, 1, 0, 0),  // 0
			w(api.Br, 0, 0, 7),    // 1
			w(api.La, 1, 0, 0), 5, // 2
			w(api.Cli, 0, 0, 0),    // 4
			9,                      // 5, a table
			w(api.Jmp, 0, 0, 0), 0, // 6
			w(api.Spte, 14, 15, 0),   // 8
			w(api.Out, 2, 0, 0),      // 9
			w(api.Li, 2, 0, 0), 1000, // 10
			w(api.Nop, 0, 0, 0), // 12
			w(api.Gst, 3, 0, 0), // 13
		},
		Map: []byte{1, 1, 1, 0, 1, 2, 1, 0, 1, 1, 1, 0, 1, 1},
		DRels: []api.Reloc{
			{At: 0, Kind: api.Word, Sym: 0}, {At: 1, Kind: api.Word, Sym: 1, Add: 2},
		},
		CRels: []api.Reloc{
			{At: 1, Kind: api.Branch, Sym: 2}, {At: 3, Kind: api.Word, Sym: 1, Add: 1}, {At: 5, Kind: api.Word, Sym: 0},
			{At: 7, Kind: api.Word, Sym: 3}, {At: 11, Kind: api.Word, Sym: 4},
		},
		Syms: []api.Sym{
			{Name: "main", In: api.InCode, Global: true}, {Name: "d", In: api.InData, Value: 1}, {Name: "far", In: api.Absent, Global: true},
			{Name: "out", In: api.InCode, Value: 9}, {Name: "last", In: api.InCode, Value: 13}, {Name: "li", In: api.InCode, Value: 10},
		},
	}
}

// P11.1: of an object with all in it, all that comes out, number by number.
func TestP11_1Mixed(t *testing.T) {
	want := mixed()
	want.Code = []uint32{
		0x60000000, 0xa0010000, // 0, of halt r1
		0x10000007,    // 2
		0x0f010000, 5, // 3
		0x60000000, 0xc0000000, // 5, of cli
		9,             // 7
		0x13000000, 0, // 8
		0x60000000, 0xa90e0f00, // 10, of spte r14 r15
		0x60000000, 0xa3020000, // 12, of out r2
		0x0e020000, 1000, // 14
		0x01000000,             // 16
		0x60000000, 0xc2030000, // 17, of gst r3
	}
	want.Map = []byte{1, 0, 1, 1, 0, 1, 0, 2, 1, 0, 1, 0, 1, 0, 1, 0, 1, 1, 0}
	for k, at := range []int{2, 4, 7, 9, 15} {
		want.CRels[k].At = at
	}
	want.Syms[3].Value, want.Syms[4].Value, want.Syms[5].Value = 12, 17, 14
	check(t, "mixed", mixed(), told{want, []int{0, 2, 3, 4, 5, 7, 8, 9, 10, 12, 14, 15, 16, 17, 19}})
}

// P11.1: symbols that stand in code move with their words, be there one, many of one word, or as many as there may be;
// those that stand in data or nowhere don't, though a word of their Value's does.
func TestP11_1Symbols(t *testing.T) {
	o := api.Object{Data: make([]uint32, 256)}
	want := api.Object{Data: make([]uint32, 256)}
	for at := range 64 {
		word := w(api.Sync, 0, 0, 0)
		o.Code, o.Map = append(o.Code, word), append(o.Map, 1)
		want.Code, want.Map = append(want.Code, hc, 0x80000000|word), append(want.Map, 1, 0)
		for _, s := range []api.Sym{{In: api.InCode, Value: at}, {In: api.InData, Value: at}, {In: api.InCode, Value: 63 - at, Global: true}, {In: api.Absent, Global: true}} {
			s.Name = "s" + strconv.Itoa(len(o.Syms))
			o.Syms = append(o.Syms, s)
			if s.In == api.InCode {
				s.Value *= 2
			}
			want.Syms = append(want.Syms, s)
		}
	}
	var places []int
	for at := range 65 {
		places = append(places, 2*at)
	}
	check(t, "256 symbols", o, told{want, places})
}

// P11.1, P11.2: as many words as MaxWords, and as many relocations as there may be; one word more is ErrMany, alone,
// where the rewritten code alone is too long. Needs has no bound.
func TestP11_1Longest(t *testing.T) {
	cli, nop, table, repaired, call := instruction(api.Cli), instruction(api.Nop), tables()[1], tables()[2], instruction(api.Call)
	for _, x := range []struct {
		what  string
		l     []piece
		words int
	}{
		{"1024 to be rewritten", slices.Repeat([]piece{cli}, 1024), 2048},
		{"1025 to be rewritten", slices.Repeat([]piece{cli}, 1025), 2050},
		{"2048 to be rewritten", slices.Repeat([]piece{cli}, 2048), 4096},
		{"1023, and two more", append(slices.Repeat([]piece{cli}, 1023), nop, nop), 2048},
		{"1023, and three more", append(slices.Repeat([]piece{cli}, 1023), nop, nop, nop), 2049},
		{"one, the first of 2047", append([]piece{cli}, slices.Repeat([]piece{nop}, 2046)...), 2048},
		{"one, the first of 2048", append([]piece{cli}, slices.Repeat([]piece{nop}, 2047)...), 2049},
		{"one, the last of 2047", append(slices.Repeat([]piece{nop}, 2046), cli), 2048},
		{"one, the last of 2048", append(slices.Repeat([]piece{nop}, 2047), cli), 2049},
		{"none of 2048", slices.Repeat([]piece{nop}, 2048), 2048},
		{"tables, and none", slices.Repeat([]piece{table, table}, 1024), 2048},
		{"tables, and one", append(slices.Repeat([]piece{table}, 2047), cli), 2049},
		{"512, each ahead of two that are repaired", slices.Repeat([]piece{cli, repaired, repaired}, 512), 2048},
		{"calls and one", append([]piece{cli}, slices.Repeat([]piece{call}, 1023)...), 2048},
		{"calls and two", append([]piece{cli, cli}, slices.Repeat([]piece{call}, 1023)...), 2050},
	} {
		o, want := laid(x.l...)
		if len(want.object.Code) != x.words {
			t.Fatalf("%s: %d words are wanted", x.what, len(want.object.Code))
		}
		if x.words <= api.MaxWords {
			check(t, x.what, o, want)
		} else {
			checkTooLong(t, x.what, o, x.words)
		}
	}
}

// checkTooLong holds what is told of a valid object whose Code would have too many words.
func checkTooLong(t *testing.T, what string, o api.Object, words int) {
	t.Helper()
	was := obj.Clone(o)
	p, places, err := rewrite.Do(o)
	checkError(t, what+": Do", err, alone, api.ErrMany)
	if !obj.Same(p, api.Object{}) || len(places) > 0 {
		t.Errorf("%s: %d words, %d places beside an error", what, len(p.Code), len(places))
	}
	if n, err := rewrite.Needs(o); n != words || err != nil {
		t.Errorf("%s: Needs: %d, %v, want %d", what, n, err, words)
	}
	if !obj.Same(o, was) {
		t.Errorf("%s: the object was changed: %s", what, firstDifference(told{object: o}, told{object: was}))
	}
}
