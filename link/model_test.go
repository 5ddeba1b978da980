package link_test

import (
	"slices"
	"strconv"
	"testing"

	"facade/api"
	"facade/isa"
	"facade/link"
)

// dice are numbers that look like any, the same ones each time.
type dice uint64

func (d *dice) below(n int) int {
	*d = *d*6364136223846793005 + 1442695040888963407
	return int(uint64(*d)>>33) % n
}

// goal is what a relocation is by: a word of an object's data, or a line of its code.
type goal struct{ object, in, at int }

// line is a word of data, or an instruction or a word of a table in code, with what its last word is repaired by.
type line struct {
	words    []uint32
	table    bool
	repaired bool
	branch   bool
	to       goal
	add      int
}

// text is an object, without symbols.
type text struct{ data, code []line }

// texts are some objects that go to one another, and where main is.
type texts struct {
	l    []text
	main goal
}

// texts are some, as they fall: with so many lines of code each.
func (d *dice) texts(lines int) texts {
	var x texts
	for range 1 + d.below(4) {
		x.l = append(x.l, text{make([]line, d.below(6)), make([]line, 1+d.below(lines))})
	}
	x.main = x.goal(d, api.InCode)
	for k := range x.l {
		for j := range x.l[k].data {
			x.l[k].data[j] = x.repair(d, k, line{words: []uint32{uint32(d.below(1 << 30))}})
		}
		for j := range x.l[k].code {
			x.l[k].code[j] = x.line(d, goal{k, api.InCode, j})
		}
	}
	return x
}

// goal is any place in data or in code; of data one that an object has.
func (x texts) goal(d *dice, in int) goal {
	k := d.below(len(x.l))
	if n := len(x.l[k].data); in == api.InData {
		return goal{k, in, d.below(max(n, 1))}
	}
	return goal{k, in, d.below(len(x.l[k].code))}
}

// repair may have a line of an object repaired by anything; something is added to what is in its own data alone.
func (x texts) repair(d *dice, k int, l line) line {
	if d.below(2) == 0 {
		return l
	}
	l.repaired, l.to = true, x.goal(d, 1+d.below(2))
	if l.to.in == api.InData && l.to.object == k {
		l.add = d.below(2*65536+1) - 65536
	}
	return l
}

// line is a line of code that stands somewhere. Places that one goes to have to begin an instruction; so no table
// stands first in an object, nor where main is.
func (x texts) line(d *dice, here goal) line {
	table := here.at > 0 && here != x.main
	switch n := d.below(12); {
	case n < 5:
		op := api.Br + d.below(3)
		a := 0
		if op != api.Br {
			a = d.below(16)
		}
		return line{words: []uint32{w(op, a, 0, d.below(256))}, repaired: true, branch: true, to: x.goal(d, api.InCode)}
	case n == 5:
		op := api.Jmp + d.below(4)
		return line{words: []uint32{w(op, 0, 0, 0), 7}, repaired: true, to: x.goal(d, api.InCode)}
	case n == 6:
		return x.repair(d, here.object, line{words: []uint32{w(api.Li, 1+d.below(15), 0, 0), hc}})
	case n == 7:
		return line{words: []uint32{w(api.La, 3, 0, 0), 8}, repaired: true, to: x.goal(d, 1+d.below(2))}
	case n == 8 && table:
		return x.repair(d, here.object, line{words: []uint32{w(api.Br+d.below(4), 0, 0, 0)}, table: true})
	case n == 9:
		l := sites()
		return line{words: []uint32{l[d.below(len(l))]}}
	}
	return line{words: []uint32{w(api.Add, 1, 2, d.below(16))}}
}

// atInstruction is a goal that no table stands at: the next one ahead, if one does.
func (x texts) atInstruction(g goal) goal {
	for g.in == api.InCode && x.l[g.object].code[g.at].table {
		g.at--
	}
	return g
}

// objects are the texts with symbols: own ones of names that others have too, and Global ones that others need.
func (x texts) objects(d *dice) []api.Object {
	l := make([]source, len(x.l))
	for k := range x.l {
		if x.main.object == k {
			l[k].put("main", api.InCode, x.word(x.main), true)
		}
		for _, y := range slices.Concat(x.l[k].data, x.l[k].code) {
			if to := x.atInstruction(y.to); y.repaired && to.object != k {
				l[k].sym(to.name())
				l[to.object].put(to.name(), to.in, x.word(to), true)
			}
		}
	}
	var out []api.Object
	for k := range x.l {
		x.write(d, &l[k], k)
		out = append(out, l[k].Object)
	}
	return out
}

// name is what a goal is called by all.
func (g goal) name() string {
	return strconv.Itoa(g.object) + "." + strconv.Itoa(g.in) + "." + strconv.Itoa(g.at)
}

// word is the word of data, or of code as it is in an object, that a goal is.
func (x texts) word(g goal) int {
	if g.in == api.InData {
		return g.at
	}
	n := 0
	for _, y := range x.l[g.object].code[:g.at] {
		n += len(y.words)
	}
	return n
}

// write writes the text of an object.
func (x texts) write(d *dice, s *source, k int) {
	for _, y := range x.l[k].data {
		if y.repaired {
			s.ref(y.words[0], x.called(d, s, k, y.to), y.add)
		} else {
			s.data(y.words...)
		}
	}
	for _, y := range x.l[k].code {
		switch {
		case y.branch:
			s.branch(y.words[0], x.called(d, s, k, y.to))
		case y.table && y.repaired:
			s.entry(y.words[0], x.called(d, s, k, y.to), y.add)
		case y.table:
			s.table(y.words...)
		case y.repaired:
			s.far(y.words[0], y.words[1], x.called(d, s, k, y.to), y.add)
		case len(y.words) == 2:
			s.two(y.words[0], y.words[1])
		default:
			s.one(y.words...)
		}
	}
}

// called is the name that an object uses for a goal.
func (x texts) called(d *dice, s *source, k int, g goal) string {
	g = x.atInstruction(g)
	if g.object != k {
		return g.name()
	}
	if slices.ContainsFunc(s.Syms, func(y api.Sym) bool { return y.Name == g.name() }) && d.below(2) == 0 {
		return g.name()
	}
	name := strconv.Itoa(g.in) + ":" + strconv.Itoa(g.at) // of all objects alike
	s.put(name, g.in, x.word(g), false)
	return name
}

// rewritten are the texts with calls in the place of what has to be rewritten.
func (x texts) rewritten() texts {
	out := texts{main: x.main}
	for _, y := range x.l {
		z := text{y.data, slices.Clone(y.code)}
		for k, n := range z.code {
			if c := isa.Tables().Class(int(n.words[0] >> 24)); !n.table && (c == isa.Trapping || c == isa.Silent) {
				z.code[k].words = []uint32{hc, mark(n.words[0])}
			}
		}
		out.l = append(out.l, z)
	}
	return out
}

// model is what the texts are, laid out line by line.
type model struct {
	texts
	data   []int   // where each object's data begins
	places [][]int // where each line of each object's code begins
	long   [][]bool
	words  int // of all code
}

// laid are the texts laid out: round by round, from no long branch on.
func (x texts) laid() model {
	m := model{texts: x}
	n := 0
	for _, y := range x.l {
		m.data = append(m.data, n)
		n += len(y.data)
		m.places = append(m.places, make([]int, len(y.code)))
		m.long = append(m.long, make([]bool, len(y.code)))
	}
	for again := true; again; {
		m.place()
		again = m.lengthen()
	}
	return m
}

// place has each line stand where it begins, by which are long.
func (m *model) place() {
	m.words = 0
	for k, y := range m.l {
		for j, n := range y.code {
			m.places[k][j] = m.words
			m.words += len(n.words)
			if m.long[k][j] {
				m.words++
			}
		}
	}
}

// lengthen has all branches be long that go too far, and tells whether one does.
func (m *model) lengthen() bool {
	found := false
	for k, y := range m.l {
		for j, n := range y.code {
			if distance := m.distance(goal{k, api.InCode, j}); n.branch && !m.long[k][j] && (distance < -128 || distance > 127) {
				m.long[k][j], found = true, true
			}
		}
	}
	return found
}

// distance is how far the line at a place goes.
func (m *model) distance(from goal) int {
	to := m.atInstruction(m.l[from.object].code[from.at].to)
	if to.in != api.InCode {
		return 0
	}
	return m.places[to.object][to.at] - m.places[from.object][from.at]
}

// address is that of a goal.
func (m *model) address(g goal) uint32 {
	g = m.atInstruction(g)
	if g.in == api.InData {
		return uint32(m.data[g.object] + g.at)
	}
	return uint32(2048 + m.places[g.object][g.at])
}

// image is what Link has to answer of the texts.
func (m *model) image() api.Image {
	i := api.Image{Entry: m.address(m.main)}
	for _, y := range m.l {
		for _, n := range y.data {
			if n.repaired && n.to.in == api.InCode {
				i.DataRefs = append(i.DataRefs, len(i.Data))
			}
			i.Data = append(i.Data, m.last(n)...)
		}
	}
	for k, y := range m.l {
		for j, n := range y.code {
			if !n.table {
				i.Starts = append(i.Starts, len(i.Code))
			}
			i.Code = append(i.Code, m.line(goal{k, api.InCode, j}, n)...)
			if n.repaired && n.to.in == api.InCode && (!n.branch || m.long[k][j]) {
				i.Places = append(i.Places, len(i.Code)-1)
			}
		}
	}
	return i
}

// last are the words of a line, the last one repaired, if one is.
func (m *model) last(n line) []uint32 {
	words := slices.Clone(n.words)
	if n.repaired {
		words[len(words)-1] = m.address(n.to) + uint32(n.add)
	}
	return words
}

// line are the words of a line of code.
func (m *model) line(here goal, n line) []uint32 {
	if !n.branch {
		return m.last(n)
	}
	if m.long[here.object][here.at] {
		return []uint32{n.words[0]&0x00ff0000 | (n.words[0]>>24+3)<<24, m.address(n.to)}
	}
	return []uint32{n.words[0]&0xffff0000 | uint32(byte(m.distance(here)))}
}

// P13.2, P13.3, P0.11: texts as they fall, against the model.
func TestP13_2Model(t *testing.T) {
	var d dice
	held, long := 0, 0
	for k := range 900 {
		lines := 10
		if k%3 == 0 {
			lines = 260
		}
		x := d.texts(lines)
		m, p, o := x.laid(), x.rewritten().laid(), x.objects(&d)
		if m.words > api.MaxWords || p.words > api.MaxWords || tooMany(o) {
			continue
		}
		checkModel(t, "texts "+strconv.Itoa(k), o, m, p)
		held++
		if m.words > len(slices.Concat(codes(o)...)) {
			long++
		}
	}
	if held < 800 || long < 100 {
		t.Errorf("%d were held against the model, %d of them with long branches", held, long)
	}
}

// codes are the Code of each object.
func codes(l []api.Object) [][]uint32 {
	var out [][]uint32
	for _, o := range l {
		out = append(out, o.Code)
	}
	return out
}

// tooMany tells whether one of the objects has more of something than one may have.
func tooMany(l []api.Object) bool {
	return slices.ContainsFunc(l, func(o api.Object) bool {
		return len(o.Syms) > api.MaxSyms || len(o.CRels) > api.MaxRelocs || len(o.DRels) > api.MaxRelocs
	})
}

// checkModel holds what is told of objects against their model, and that of their being rewritten.
func checkModel(t *testing.T, what string, o []api.Object, m, p model) {
	t.Helper()
	was := clones(o)
	wantPlain, wantPatched := m.image(), p.image()
	plain, err := link.Link(o...)
	checkImage(t, what, plain, err, wantPlain)
	patched, err := link.Patched(o...)
	checkImage(t, what+", patched", patched, err, wantPatched)
	a, b, err := link.Map(o...)
	if err != nil || len(a) != len(wantPlain.Starts) || len(b) != len(a) {
		t.Fatalf("%s: Map: %v", what, err)
	}
	for j := range a {
		if a[j] != uint32(2048+wantPlain.Starts[j]) || b[j] != uint32(2048+wantPatched.Starts[j]) {
			t.Fatalf("%s: Map at %d: %d, %d", what, j, a[j], b[j])
		}
	}
	checkNames(t, what, o, m)
	words := len(slices.Concat(codes(o)...))
	if len(plain.Code) > 2*words || len(patched.Code) > 4*words {
		t.Errorf("%s: %d words, linked %d, patched %d", what, words, len(plain.Code), len(patched.Code))
	}
	if !sameAll(o, was) {
		t.Errorf("%s: an object was changed", what)
	}
}

// checkNames holds Where of each symbol against the model.
func checkNames(t *testing.T, what string, o []api.Object, m model) {
	t.Helper()
	for _, x := range o {
		for _, s := range x.Syms[:min(len(x.Syms), 9)] {
			want, bad := uint32(0), api.ErrNone
			if s.Global {
				want, bad = m.address(m.named(s.Name)), nil
			}
			if got, err := link.Where(o, s.Name); got != want || err != bad {
				t.Errorf("%s: Where %q is %d, %v, want %d", what, s.Name, got, err, want)
			}
		}
	}
}

// named is the goal of a Global name.
func (m *model) named(name string) goal {
	if name == "main" {
		return m.main
	}
	var g goal
	for _, part := range []struct {
		n     *int
		begin byte
	}{{&g.object, 0}, {&g.in, '.'}, {&g.at, '.'}} {
		if part.begin != 0 {
			name = name[1:]
		}
		for len(name) > 0 && name[0] != '.' {
			*part.n, name = *part.n*10+int(name[0]-'0'), name[1:]
		}
	}
	return g
}
