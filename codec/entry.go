package codec

import "vellum/api"

// EncodeEntry makes the 64 bytes of an entry.
func EncodeEntry(e api.Entry) ([]byte, api.Errno) {
	e.Slot = 0 // where an entry lies is not told by its bytes
	if e == (api.Entry{}) {
		return make([]byte, api.EntryBytes), api.OK
	}
	if !entryFits(e) {
		return nil, api.ErrField
	}
	var w writer
	w.number(e.Node, u32)
	w.number(e.Kind, u8)
	w.number(len(e.Name), u8)
	w.text(e.Name)
	w.zerosTo(api.EntryBytes - u32)
	return w.summed(), api.OK
}

// DecodeEntry reads the 64 bytes of an entry.
func DecodeEntry(b []byte) (x api.Entry, e api.Errno) {
	if len(b) != api.EntryBytes {
		return api.Entry{}, api.ErrLength
	}
	if empty(b) {
		return api.Entry{}, api.OK
	}
	defer func() {
		if recover() != nil {
			x, e = api.Entry{}, api.ErrCorrupt
		}
	}()
	return readEntry(summedReader(b)), api.OK
}

func readEntry(r *reader) api.Entry {
	var x api.Entry
	x.Node = r.number(u32)
	x.Kind = r.number(u8)
	x.Name = r.text(r.number(u8))
	r.zerosTo(api.EntryBytes - u32)
	must(entryFits(x))
	return x
}

// entryFits says whether the fields fit of an entry that is not empty.
func entryFits(x api.Entry) bool {
	return within(x.Node, api.Root, api.MaxNodes) &&
		within(x.Kind, api.KFile, api.KLink) &&
		Name(x.Name) == api.OK
}
