package link

import (
	"facade/api"
	"facade/isa"
)

const entry = "main" // the symbol that an image begins at

// spot is where a symbol stands: a word of all Data, or of all Code as it is ahead of its being laid out.
type spot struct{ in, at int }

// part is an object, and where its Data and its Code begin among all.
type part struct {
	api.Object
	data, code int
}

// spot is where a symbol of the part's stands, if it isn't Absent.
func (p part) spot(s api.Sym) spot {
	if s.In == api.InData {
		return spot{s.In, p.data + s.Value}
	}
	return spot{s.In, p.code + s.Value}
}

// jumps tells whether a relocation of the part's Code is one of a jump.
func (p part) jumps(r api.Reloc) bool {
	if r.Kind == api.Branch {
		return true
	}
	if p.Map[r.At] != second {
		return false
	}
	in, _ := isa.Of(p.Code[r.At-1], 0)
	return isa.Tables().Jumps(in.Op)
}

// joined are objects one behind the other.
type joined struct {
	parts      []part
	data, code int             // how many words they have in all
	shared     map[string]spot // the Global symbols that are not Absent
}

// join is the objects one behind the other; else what is wrong with them, be it not that they are too long.
func join(l []api.Object) (joined, error) {
	if len(l) > api.MaxObjs {
		return joined{}, api.ErrMany
	}
	j := joined{shared: map[string]spot{}}
	for k, o := range l {
		if err := j.add(o); err != nil {
			return joined{}, &api.At{Pos: k, Err: err}
		}
	}
	for _, fault := range []func(part) error{j.misses, j.misleads} {
		for k, p := range j.parts {
			if err := fault(p); err != nil {
				return joined{}, &api.At{Pos: k, Err: err}
			}
		}
	}
	if j.shared[entry].in != api.InCode {
		return joined{}, api.ErrNone
	}
	return j, nil
}

// add puts an object behind those that are there, or tells what is wrong with it.
func (j *joined) add(o api.Object) error {
	if err := valid(o); err != nil {
		return err
	}
	p := part{o, j.data, j.code}
	for _, s := range o.Syms {
		if !s.Global || s.In == api.Absent {
			continue
		}
		if _, is := j.shared[s.Name]; is { // an object ahead has it: a valid one has no name twice
			return api.ErrTwice
		}
		j.shared[s.Name] = p.spot(s)
	}
	j.parts = append(j.parts, p)
	j.data += len(o.Data)
	j.code += len(o.Code)
	return nil
}

// misses is ErrNone, if a part has an Absent symbol that no part has.
func (j *joined) misses(p part) error {
	for _, s := range p.Syms {
		if _, is := j.shared[s.Name]; !is && s.In == api.Absent {
			return api.ErrNone
		}
	}
	return nil
}

// misleads is ErrShape, if a part jumps to an Absent symbol that another part has in data.
func (j *joined) misleads(p part) error {
	for _, r := range p.CRels {
		if s := p.Syms[r.Sym]; s.In == api.Absent && j.spot(p, s).in == api.InData && p.jumps(r) {
			return api.ErrShape
		}
	}
	return nil
}

// spot is where a symbol of a part stands, be it Absent there.
func (j *joined) spot(p part, s api.Sym) spot {
	if s.In == api.Absent {
		return j.shared[s.Name]
	}
	return p.spot(s)
}
