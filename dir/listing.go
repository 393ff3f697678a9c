package dir

import (
	"cmp"
	"slices"

	"vellum/api"
	"vellum/codec"
	"vellum/halt"
)

// perBlock is how many slots a block has.
const perBlock = api.Size / api.EntryBytes

// listing is a directory as it stands.
type listing struct {
	size   int
	bySlot []api.Entry
	byName []api.Entry // the same ones
}

// start is the first byte of a slot in the content.
func start(slot int) int { return slot * api.EntryBytes }

// open reads a directory whole, whatever is asked of it: no call goes on over a slot that is broken, or a name that stands twice.
func (d *Dirs) open(dir int) listing {
	n := halt.Got(d.Load(dir))
	halt.If(n.Kind != api.KDir, api.ErrNotDir)
	halt.If(n.Size%api.Size != 0, api.ErrCorrupt)
	entries := d.entries(dir, n.Size)
	return listing{size: n.Size, bySlot: entries, byName: sorted(entries)}
}

// entries reads those of a directory of that size, by rising slots.
func (d *Dirs) entries(dir, size int) []api.Entry {
	var list []api.Entry
	for off := 0; off < size; off += api.MaxIO {
		slot := off / api.EntryBytes
		for record := range slices.Chunk(halt.Got(d.ReadAt(dir, off, api.MaxIO)), api.EntryBytes) {
			entry, e := codec.DecodeEntry(record)
			halt.If(e != api.OK, api.ErrCorrupt)
			if entry != (api.Entry{}) {
				entry.Slot = slot
				list = append(list, entry)
			}
			slot++
		}
	}
	return list
}

// sorted are the entries in the order of their names, of which no two may be the same.
func sorted(entries []api.Entry) []api.Entry {
	list := slices.Clone(entries)
	slices.SortFunc(list, func(a, b api.Entry) int { return cmp.Compare(a.Name, b.Name) })
	for i := 1; i < len(list); i++ {
		halt.If(list[i].Name == list[i-1].Name, api.ErrCorrupt)
	}
	return list
}

// find is the entry of that name: the empty one, if there is none.
func (l listing) find(name string) api.Entry {
	place, found := slices.BinarySearchFunc(l.byName, name, func(entry api.Entry, name string) int {
		return cmp.Compare(entry.Name, name)
	})
	if !found {
		return api.Entry{}
	}
	return l.byName[place]
}

// held is the entry of a name that must be there.
func (l listing) held(name string) api.Entry {
	entry := l.find(name)
	halt.If(entry == (api.Entry{}), api.ErrNotFound)
	return entry
}

// lowestEmpty is the first slot without an entry: the one at the size, where all are full.
func (l listing) lowestEmpty() int {
	for slot, entry := range l.bySlot {
		if entry.Slot != slot {
			return slot
		}
	}
	return len(l.bySlot)
}

// sizeWithout is the size at which the last block holds an entry, when that one is out.
func (l listing) sizeWithout(out api.Entry) int {
	for _, entry := range slices.Backward(l.bySlot) {
		if entry != out {
			return (entry.Slot/perBlock + 1) * api.Size
		}
	}
	return 0
}
