package link

import (
	"facade/api"
	"facade/isa"
)

// program is all objects as one, laid out.
type program struct {
	whole
	laid   []int // where each word of all Code stands, with how many words there are behind the last one
	shared map[string]spot
}

// programOf is the objects as a program; else what is wrong with them.
func programOf(l []api.Object) (program, error) {
	j, err := join(l)
	if err != nil {
		return program{}, err
	}
	w := j.whole()
	laid, is := w.layOut()
	if !is || laid[len(w.code)] > api.MaxWords || len(w.data) > api.MaxWords {
		return program{}, api.ErrMany
	}
	return program{w, laid, j.shared}, nil
}

// address is that of what stands somewhere.
func (p program) address(s spot) uint32 {
	if s.in == api.InData {
		return uint32(s.at)
	}
	return codeAddress(p.laid[s.at])
}

// image is the program as it is run.
func (p program) image() api.Image {
	i := api.Image{Entry: p.address(p.shared[entry]), Data: p.data, Code: make([]uint32, p.laid[len(p.code)])}
	for at, w := range p.code {
		i.Code[p.laid[at]] = w
		if p.marks[at] == first {
			i.Starts = append(i.Starts, p.laid[at])
		}
	}
	for _, r := range p.dataFixes {
		i.Data[r.at] = p.word(r)
		if r.to.in == api.InCode {
			i.DataRefs = append(i.DataRefs, r.at)
		}
	}
	for _, r := range p.codeFixes {
		p.fix(&i, r)
	}
	return i
}

// fix repairs a word of the image's Code, and notes where a place of code has come to stand.
func (p program) fix(i *api.Image, r repair) {
	at, w := p.laid[r.at], p.code[r.at]
	switch {
	case r.kind == api.Word:
		i.Code[at] = p.word(r)
		if r.to.in == api.InCode {
			i.Places = append(i.Places, at)
		}
	case p.laid[r.at+1]-at == 2: // a branch is one word, unless it is long
		i.Code[at], i.Code[at+1] = long(w), p.word(r)
		i.Places = append(i.Places, at+1)
	default:
		i.Code[at] = w&^255 | uint32(p.laid[r.to.at]-at)&255
	}
}

// word is the address that a repair is by, and what is added to it.
func (p program) word(r repair) uint32 { return p.address(r.to) + uint32(r.add) }

// long is the word of the jump that has its address behind it, by the word of the branch that has its distance in C.
func long(w uint32) uint32 {
	in, _ := isa.Of(w, 0)
	switch in.Op {
	case api.Br:
		in.Op = api.Jmp
	case api.Brz:
		in.Op = api.Jz
	case api.Brn:
		in.Op = api.Jn
	}
	in.C = 0
	w, _ = isa.Word(in)
	return w
}
