package dump_test

import (
	"bytes"
	"encoding/binary"
	"hash/crc32"
	"slices"
	"strings"

	"vellum/api"
	"vellum/site"
)

// The chapter's words about items and archives, one by one, over whole lists.

// broken is the first of the nine rules that a list breaks; 0, if it is right.
func broken(items []api.Item) int {
	rules := []func(at int, item api.Item, items []api.Item) bool{rule2, rule3, rule4, rule5, rule6, rule7, rule8, rule9}
	if len(items) > 4096 {
		return 1
	}
	for i, holds := range rules {
		for at, item := range items {
			if !holds(at, item, items) {
				return i + 2
			}
		}
	}
	return 0
}

func rule2(at int, item api.Item, items []api.Item) bool {
	if len(item.Path) > 1023 || !strings.HasPrefix(item.Path, "/") {
		return false
	}
	for _, part := range strings.Split(item.Path, "/")[1:] {
		if part == "" || part == "." || part == ".." || len(part) > 54 || strings.Contains(part, "\x00") {
			return false
		}
	}
	return true
}

func rule3(at int, item api.Item, items []api.Item) bool {
	return at == 0 || site.Order(items[at-1].Path, item.Path) < 0
}

func rule4(at int, item api.Item, items []api.Item) bool {
	above := item.Path[:strings.LastIndex(item.Path, "/")]
	return above == "" || slices.ContainsFunc(items, func(x api.Item) bool { return x.Path == above && x.Kind == 2 })
}

func rule5(at int, item api.Item, items []api.Item) bool { return item.Kind >= 1 && item.Kind <= 4 }

func rule6(at int, item api.Item, items []api.Item) bool {
	if item.Kind != 1 {
		return true
	}
	if item.Size < 0 || item.Size > 8459264 || item.Target != "" {
		return false
	}
	blocks := 0
	for i, run := range item.Runs {
		if run.From < 0 || i > 0 && run.From <= item.Runs[i-1].To || run.To <= run.From || run.To > 16522 || (run.To-1)*512 >= item.Size {
			return false
		}
		blocks += run.To - run.From
	}
	if 512*blocks != len(item.Data) {
		return false
	}
	left := item.Data
	for _, run := range item.Runs {
		for place := run.From * 512; place < run.To*512; place++ {
			if place >= item.Size && left[0] != 0 {
				return false
			}
			left = left[1:]
		}
	}
	return true
}

func empty(item api.Item) bool {
	return item.Size == 0 && len(item.Runs) == 0 && len(item.Data) == 0
}

func rule7(at int, item api.Item, items []api.Item) bool {
	return item.Kind != 2 || item.Target == "" && empty(item)
}

func rule8(at int, item api.Item, items []api.Item) bool {
	return item.Kind != 3 || len(item.Target) >= 1 && len(item.Target) <= 255 && strings.Count(item.Target, "\x00") == 0 && empty(item)
}

func rule9(at int, item api.Item, items []api.Item) bool {
	return item.Kind != 4 || empty(item) && slices.ContainsFunc(items[:at], func(x api.Item) bool { return x.Path == item.Target && x.Kind == 1 })
}

// bytesOf are the bytes of an archive by the chapter's table, of items right or not.
func bytesOf(items []api.Item) []byte {
	low := binary.LittleEndian
	b := []byte("vlmarch\x01")
	for _, item := range items {
		b = append(b, byte(item.Kind))
		b = append(low.AppendUint16(b, uint16(len(item.Path))), item.Path...)
		switch item.Kind {
		case 1:
			b = low.AppendUint32(low.AppendUint64(b, uint64(item.Size)), uint32(len(item.Runs)))
			for _, run := range item.Runs {
				b = low.AppendUint32(low.AppendUint32(b, uint32(run.From)), uint32(run.To))
			}
			b = append(b, item.Data...)
		case 3, 4:
			b = append(low.AppendUint16(b, uint16(len(item.Target))), item.Target...)
		}
	}
	b = low.AppendUint32(append(b, 0), uint32(len(items)))
	return low.AppendUint32(b, crc(b))
}

func crc(b []byte) uint32 { return crc32.Checksum(b, crc32.MakeTable(crc32.Castagnoli)) }

// resummed has in its last four bytes the sum of all ahead of them.
func resummed(b []byte) []byte {
	b = bytes.Clone(b)
	if at := len(b) - 4; at >= 0 {
		binary.LittleEndian.PutUint32(b[at:], crc(b[:at]))
	}
	return b
}

// cursor takes bytes in a row; too few of them: they are bad.
type cursor struct {
	left []byte
	bad  bool
}

func (c *cursor) next(n uint64) []byte {
	if n > uint64(len(c.left)) {
		c.bad, c.left = true, nil
		return nil
	}
	taken := c.left[:n]
	c.left = c.left[n:]
	return taken
}

func (c *cursor) number(width uint64) uint64 {
	var b [8]byte
	copy(b[:], c.next(width))
	return binary.LittleEndian.Uint64(b[:])
}

// itemsOf are the items of an archive; false: it is none.
func itemsOf(archive []byte) ([]api.Item, bool) {
	if len(archive) < 17 || string(archive[:8]) != "vlmarch\x01" {
		return nil, false
	}
	body, sum := archive[:len(archive)-4], archive[len(archive)-4:]
	if binary.LittleEndian.Uint32(sum) != crc(body) {
		return nil, false
	}
	c := &cursor{left: body[8:]}
	var items []api.Item
	for !c.bad {
		kind := c.number(1)
		if kind == 0 {
			break
		}
		item := api.Item{Kind: int(kind), Path: string(c.next(c.number(2)))}
		switch kind {
		case 1:
			size := c.number(8)
			if size > 8459264 {
				return nil, false
			}
			item.Size = int(size)
			var blocks uint64
			for range c.number(4) {
				from, to := c.number(4), c.number(4)
				if c.bad || to <= from || to > 16522 {
					return nil, false
				}
				item.Runs = append(item.Runs, api.Run{From: int(from), To: int(to)})
				blocks += to - from
			}
			item.Data = c.next(512 * blocks)
		case 3, 4:
			item.Target = string(c.next(c.number(2)))
		}
		items = append(items, item)
	}
	count := c.number(4)
	return items, !c.bad && len(c.left) == 0 && count == uint64(len(items)) && broken(items) == 0
}
