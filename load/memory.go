package load

import (
	"facade/api"
	"facade/mem"
	"facade/walk"
)

// memory is an image as it stands in memory: its tables, its data, what is left of quota, and then its code.
func memory(i api.Image, quota int) (*mem.Mem, error) {
	data, code := Pages(i)
	m, err := mem.New(quota + code)
	if err != nil {
		return nil, err
	}
	for k := range api.Page {
		enter(m, k, api.Entry{Frame: k + 1, There: true, W: true, U: true})
	}
	for p := range data {
		put(m, i, p, api.Entry{Frame: api.Tables + p, There: true, W: true, U: true})
	}
	for p := range code {
		put(m, i, api.CodePage+p, api.Entry{Frame: quota + p, There: true, U: true})
	}
	return m, nil
}

// put makes a page of the image stand in the frame that its entry names. The tables of the second level stand one
// behind the other from frame 1 on: so a page's entry is as many words behind their beginning as there are pages ahead.
func put(m *mem.Mem, i api.Image, page int, e api.Entry) {
	words, _ := Page(i, page)
	m.Fill(e.Frame, words...)
	enter(m, api.Page+page, e)
}

// enter makes a word of memory that of an entry.
func enter(m *mem.Mem, at int, e api.Entry) {
	w, _ := walk.Bits(e)
	m.Write(at, w)
}
