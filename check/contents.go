package check

import (
	"slices"

	"vellum/api"
	"vellum/codec"
)

// perPage is how many slots a block of a directory has.
const perPage = api.Size / api.EntryBytes

// listed is what lies in a directory; in a link there are no entries.
type listed struct {
	entries []api.Entry
	faults  []api.Fault
}

// contents is phase 4.
func (im *image) contents() []api.Fault {
	var numbers []int
	for _, number := range im.numbers {
		if im.nodes[number].Kind != api.KFile {
			numbers = append(numbers, number)
		}
	}
	var faults [][]api.Fault
	for i, l := range team(im.workers, numbers, im.opened, im.lookInto) {
		im.entries[numbers[i]] = l.entries
		faults = append(faults, l.faults)
	}
	return slices.Concat(faults...)
}

// opened is a node with its pages, by rising indexes.
func (im *image) opened(number int) sheaf {
	s := sheaf{number: number, node: im.nodes[number]}
	for _, c := range im.claims[number] {
		if c.depth == 0 {
			s.pages = append(s.pages, im.page(c))
		}
	}
	return s
}

func (im *image) lookInto(s sheaf) listed {
	if s.node.Kind == api.KLink {
		return listed{faults: s.textFaults()}
	}
	entries, broken := s.entries()
	return listed{entries: entries, faults: slices.Concat(s.holes(), broken, s.namesakes(entries), im.strays(s, entries), s.trail())}
}

// textFaults are those of a link: its text lies in one page, as its size has been found right.
func (s sheaf) textFaults() []api.Fault {
	if len(s.pages) > 0 && !slices.Contains(s.pages[0].bytes[:s.node.Size], 0) {
		return nil
	}
	return []api.Fault{{Kind: api.FText, Node: s.number}}
}

// holes are the indexes of a directory without a page. No page lies behind the size; and as there may be thousands of holes in each directory, room is made for just so many.
func (s sheaf) holes() []api.Fault {
	indexes, left := s.node.Size/api.Size, s.pages
	faults := make([]api.Fault, 0, indexes-len(left))
	for index := range indexes {
		if len(left) > 0 && left[0].index == index {
			left = left[1:]
			continue
		}
		faults = append(faults, api.Fault{Kind: api.FHole, Node: s.number, Index: index})
	}
	return faults
}

// entries are those of a directory, by rising slots, and the slots that are broken.
func (s sheaf) entries() (entries []api.Entry, broken []api.Fault) {
	for _, p := range s.pages {
		for i := range perPage {
			entry, e := codec.DecodeEntry(p.bytes[i*api.EntryBytes : (i+1)*api.EntryBytes])
			slot := p.index*perPage + i
			if e != api.OK {
				broken = append(broken, api.Fault{Kind: api.FEntry, Node: s.number, Index: slot})
			} else if entry != (api.Entry{}) {
				entry.Slot = slot
				entries = append(entries, entry)
			}
		}
	}
	return entries, broken
}

// namesakes are the entries whose name stands in a lower slot too.
func (s sheaf) namesakes(entries []api.Entry) []api.Fault {
	var faults []api.Fault
	met := make(map[string]int, len(entries)) // how often
	for _, entry := range entries {
		met[entry.Name]++
		if met[entry.Name] > 1 {
			faults = append(faults, api.Fault{Kind: api.FName, Node: s.number, Index: entry.Slot})
		}
	}
	return faults
}

// strays are the entries that lead to no node, or to one of another kind.
func (im *image) strays(s sheaf, entries []api.Entry) []api.Fault {
	var faults []api.Fault
	for _, entry := range entries {
		if entry.Node > im.layout.Nodes || im.nodes[entry.Node].Kind != entry.Kind {
			faults = append(faults, api.Fault{Kind: api.FTarget, Node: s.number, Index: entry.Slot, Other: entry.Node})
		}
	}
	return faults
}

// trail is the last page of a directory, if it is there and holds nothing.
func (s sheaf) trail() []api.Fault {
	last := len(s.pages) - 1
	if last < 0 || s.pages[last].index != s.node.Size/api.Size-1 || !blank(s.pages[last].bytes) {
		return nil
	}
	return []api.Fault{{Kind: api.FTrail, Node: s.number}}
}
