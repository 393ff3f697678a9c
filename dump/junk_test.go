package dump_test

import (
	"bytes"
	"fmt"
	"testing"

	"vellum/api"
	"vellum/codec"
	"vellum/dump"
	"vellum/site"
	"vellum/trial"
)

// lays writes a home block beside the file system.
func (g *ground) lays(home, block int, data []byte) {
	g.T.Helper()
	trial.Is(g.T, "Write", g.D.Write(home+block, data), api.OK)
}

// slots is a directory's block with these entries.
func slots(entries ...api.Entry) []byte {
	var block []byte
	for _, entry := range entries {
		b, _ := codec.EncodeEntry(entry)
		block = append(block, b...)
	}
	return append(block, make([]byte, api.Size-len(block))...)
}

// A directory that holds itself, once or eight times: Save ends all the same, at a path that is too long, or at an item too many.
func TestP9Loops(t *testing.T) {
	for count, digits := range map[int]string{1: "%d", 2: "%020d", 8: "%054d"} {
		g := fresh(t, api.Super{Sectors: 64, Log: 18, Nodes: 8})
		g.All(site.Mkdir("/d"), site.Create("/d/f"))
		trial.Is(t, "Checkpoint", g.F.Checkpoint(), api.OK)
		var entries []api.Entry
		for i := range count {
			entries = append(entries, api.Entry{Node: 2, Kind: api.KDir, Name: fmt.Sprintf(digits, i)})
		}
		g.lays(21, 5, slots(entries...)) // behind the root's block, which is 4
		name := "/" + entries[0].Name
		site.Does(t, g.F, site.List("/d"+name+name), api.OK)
		g.unsaved(api.ErrLong)
	}
}

// Any bytes below a file system that is mounted: Save ends, and tells an archive or nothing.
func TestP9Junk(t *testing.T) {
	t.Parallel()
	d := site.Planter{Dice: trial.NewDice(15092)}
	answers := map[api.Errno]int{}
	for range 150 {
		g := fresh(t, api.Super{Sectors: 64, Log: 18, Nodes: 16}).grown(d, 60)
		trial.Is(t, "Checkpoint", g.F.Checkpoint(), api.OK)
		image := g.D.Image()
		for range 1 + d.Below(4) {
			block := 2 + d.Below(38)
			data := bytes.Clone(image[512*(21+d.Below(43)):][:512])
			switch d.Below(4) {
			case 0:
				data = d.Bytes(512)
			case 1:
				copy(data, image[512*(21+d.Below(43)):][:256])
			case 2:
				data = bytes.Clone(image[512*(21+block):][:512])
				data[d.Below(512)]++
			}
			g.lays(21, block, data)
		}
		archive, e := dump.Save(g.F)
		answers[e]++
		if _, is := itemsOf(archive); is != (e == api.OK) || e != api.OK && len(archive) != 0 {
			t.Fatalf("P4: Save over junk: %d bytes, %v", len(archive), e)
		}
	}
	for _, e := range []api.Errno{api.OK, api.ErrCorrupt} {
		if answers[e] < 10 {
			t.Errorf("the draw is thin: %v", answers)
		}
	}
}
