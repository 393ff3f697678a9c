package codec

import "vellum/api"

// superHead tells a vellum disk from others, and its form from later ones.
const superHead = "vellum\x00\x01"

// EncodeSuper makes the superblock's sector.
func EncodeSuper(s api.Super) ([]byte, api.Errno) {
	if _, e := Plan(s); e != api.OK {
		return nil, e
	}
	var w writer
	w.text(superHead)
	w.number(s.Sectors, u32)
	w.number(s.Log, u32)
	w.number(s.Nodes, u32)
	w.zerosTo(api.Size - u32)
	return w.summed(), api.OK
}

// DecodeSuper reads the superblock's sector.
func DecodeSuper(sector []byte) (s api.Super, e api.Errno) {
	if len(sector) != api.Size {
		return api.Super{}, api.ErrLength
	}
	defer func() {
		if recover() != nil {
			s, e = api.Super{}, api.ErrCorrupt
		}
	}()
	return readSuper(summedReader(sector)), api.OK
}

func readSuper(r *reader) api.Super {
	must(r.text(len(superHead)) == superHead)
	s := api.Super{Sectors: r.number(u32), Log: r.number(u32), Nodes: r.number(u32)}
	r.zerosTo(api.Size - u32)
	_, e := Plan(s)
	must(e == api.OK)
	return s
}
