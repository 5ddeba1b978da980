package obj

import "facade/api"

// Bytes is an object as bytes, if it is valid; else what is wrong with it.
func Bytes(o api.Object) ([]byte, error) {
	if err := Valid(o); err != nil {
		return nil, err
	}
	sizes := sizesOf(o)
	b := appendWords(nil, Magic)
	b = appendWords(b, sizes[:]...)
	b = appendWords(b, o.Data...)
	b = appendWords(b, o.Code...)
	b = append(b, o.Map...)
	b = appendRelocs(b, o.DRels)
	b = appendRelocs(b, o.CRels)
	return appendSyms(b, o.Syms), nil
}

// appendWords puts words behind b, each the lowest byte first. What is below 0 goes round.
func appendWords[T int | int64 | uint32](b []byte, l ...T) []byte {
	for _, x := range l {
		w := uint32(x)
		b = append(b, byte(w), byte(w>>8), byte(w>>16), byte(w>>24))
	}
	return b
}

func appendRelocs(b []byte, l []api.Reloc) []byte {
	for _, r := range l {
		b = appendWords(b, r.At, r.Kind, r.Sym, r.Add)
	}
	return b
}

func appendSyms(b []byte, l []api.Sym) []byte {
	for _, s := range l {
		global := 0
		if s.Global {
			global = 1
		}
		b = appendWords(b, s.In, s.Value, global, len(s.Name))
		b = append(b, s.Name...)
	}
	return b
}
