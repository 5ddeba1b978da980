package link

import (
	"facade/api"
	"facade/relax"
)

// repair is a relocation of a word of all Data, or of all Code, by where its symbol stands.
type repair struct {
	at, kind int
	to       spot
	add      int
}

// whole is all objects as one, ahead of its being laid out.
type whole struct {
	data, code []uint32
	marks      []byte // the Map of all Code
	dataFixes  []repair
	codeFixes  []repair
}

// whole is the objects as one.
func (j *joined) whole() whole {
	w := whole{data: make([]uint32, 0, j.data), code: make([]uint32, 0, j.code), marks: make([]byte, 0, j.code)}
	for _, p := range j.parts {
		w.data = append(w.data, p.Data...)
		w.code = append(w.code, p.Code...)
		w.marks = append(w.marks, p.Map...)
		w.dataFixes = append(w.dataFixes, j.repairs(p, p.DRels, p.data)...)
		w.codeFixes = append(w.codeFixes, j.repairs(p, p.CRels, p.code)...)
	}
	return w
}

// repairs are relocations of a part, of what begins at a word among all.
func (j *joined) repairs(p part, l []api.Reloc, begin int) []repair {
	fixes := make([]repair, len(l))
	for k, r := range l {
		fixes[k] = repair{begin + r.At, r.Kind, j.spot(p, p.Syms[r.Sym]), r.Add}
	}
	return fixes
}

// layOut is where each word of all Code stands once its branches are as short as can be, with how many words there are
// behind the last one; false, if they are far too many.
func (w whole) layOut() ([]int, bool) {
	items, itemOf := w.items()
	long, _, is := relax.Do(items...)
	if !is {
		return nil, false
	}
	begins := relax.Places(items, long)
	laid := make([]int, len(w.code)+1)
	for at, item := range itemOf {
		laid[at] = begins[item]
		if w.marks[at] == second {
			laid[at]++
		}
	}
	laid[len(w.code)] = begins[len(items)]
	return laid, true
}

// items are all Code as it is to be laid out: its instructions and its tables' words; and which of them each word is
// of.
func (w whole) items() ([]relax.Item, []int) {
	var items []relax.Item
	itemOf := make([]int, len(w.code))
	for at, m := range w.marks {
		if m != second {
			items = append(items, relax.Item{})
		}
		itemOf[at] = len(items) - 1 // the first word of an object's is no second one
		items[itemOf[at]].Size++
	}
	for _, r := range w.codeFixes {
		if r.kind == api.Branch {
			it := &items[itemOf[r.at]]
			it.Branch, it.To = true, itemOf[r.to.at]
		}
	}
	return items, itemOf
}
