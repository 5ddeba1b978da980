package bare

import (
	"facade/api"
	"facade/mem"
	"facade/walk"
)

// update is a page, and the word that its entry becomes.
type update struct {
	page int
	word uint32
}

// put lets an update wait, if it may be; what may not be says nothing, and moves nothing.
func (b *Machine) put(page, word uint32) {
	if page >= api.CodePage || !b.may(word) {
		return
	}
	if len(b.waiting) == api.MaxQueue {
		b.flush()
	}
	b.waiting = append(b.waiting, update{int(page), word})
}

// may tells whether a word is that of an entry that an update may bring: of none that is there, but that of a frame of
// the kernel's own that is no table.
func (b *Machine) may(word uint32) bool {
	e, is := walk.Of(word)
	return is && (!e.There || e.Frame >= api.Tables && e.Frame < b.quota)
}

// flush does the updates that wait, in order.
func (b *Machine) flush() {
	for _, u := range b.waiting {
		u.do(b.m)
	}
	b.waiting = nil
}

// do writes the entry, if the first level has a table for it. It is asked anew for each update: one that is done may
// have written it.
func (u update) do(m *mem.Mem) {
	w, _ := m.Read(root*api.Page + u.page/api.Page)
	if first, _ := walk.Of(w); first.There {
		m.Write(first.Frame*api.Page+u.page%api.Page, u.word)
	}
}
