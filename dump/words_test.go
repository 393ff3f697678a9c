package dump_test

import (
	"encoding/binary"
	"hash/crc32"

	"vellum/api"
	"vellum/site"
)

// The chapter's words about items and archives, one by one, over whole lists.

// bytesOf are the bytes of an archive by the chapter's table, of items right or not.
func bytesOf(items []api.Item) []byte {
	low := binary.LittleEndian
	b := []byte("vlmarch\x01")
	for _, item := range items {
		b = append(b, byte(item.Kind))
		b = append(low.AppendUint16(b, uint16(len(item.Path))), item.Path...)
		switch item.Kind {
		case 1:
			b = low.AppendUint32(low.AppendUint64(b, uint64(item.Size)), uint32(len(item.Runs)))
			for _, run := range item.Runs {
				b = low.AppendUint32(low.AppendUint32(b, uint32(run.From)), uint32(run.To))
			}
			b = append(b, item.Data...)
		case 3, 4:
			b = append(low.AppendUint16(b, uint16(len(item.Target))), item.Target...)
		}
	}
	b = low.AppendUint32(append(b, 0), uint32(len(items)))
	return low.AppendUint32(b, crc(b))
}

func crc(b []byte) uint32 { return crc32.Checksum(b, crc32.MakeTable(crc32.Castagnoli)) }

// itemsOf are the items of an archive; false: it is none.
func itemsOf(archive []byte) ([]api.Item, bool) {
	if len(archive) < 17 || string(archive[:8]) != "vlmarch\x01" {
		return nil, false
	}
	body, sum := archive[:len(archive)-4], archive[len(archive)-4:]
	if binary.LittleEndian.Uint32(sum) != crc(body) {
		return nil, false
	}
	c := &site.Cursor{Left: body[8:]}
	var items []api.Item
	for !c.Bad {
		kind := c.Number(1)
		if kind == 0 {
			break
		}
		item := api.Item{Kind: int(kind), Path: string(c.Next(c.Number(2)))}
		switch kind {
		case 1:
			size := c.Number(8)
			if size > 8459264 {
				return nil, false
			}
			item.Size = int(size)
			var blocks uint64
			for range c.Number(4) {
				from, to := c.Number(4), c.Number(4)
				if c.Bad || to <= from || to > 16522 {
					return nil, false
				}
				item.Runs = append(item.Runs, api.Run{From: int(from), To: int(to)})
				blocks += to - from
			}
			item.Data = c.Next(512 * blocks)
		case 3, 4:
			item.Target = string(c.Next(c.Number(2)))
		}
		items = append(items, item)
	}
	count := c.Number(4)
	return items, !c.Bad && len(c.Left) == 0 && count == uint64(len(items)) && broken(items) == 0
}
