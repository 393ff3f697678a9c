package salvage_test

import (
	"encoding/binary"
	"slices"
	"testing"

	"vellum/api"
	"vellum/fs"
	"vellum/seal"
	"vellum/site"
	"vellum/trial"
)

// put is a block with its new content.
type put struct {
	block int
	data  []byte
}

// recordOf is a transaction's record by the words of chapter 5, of blocks right or not.
func recordOf(puts ...put) []byte {
	low := binary.LittleEndian
	record := low.AppendUint16(nil, uint16(len(puts)))
	for _, p := range puts {
		record = low.AppendUint32(record, uint32(p.block))
	}
	for _, p := range puts {
		record = append(record, p.data...)
	}
	return record
}

// text is a put of the block of the sample's link.
func text(s string) put { return put{12, append([]byte(s), make([]byte, 512-len(s))...)} }

// textLines is the outline of the sample with that link.
func textLines(s string) []string { return append(sampleLines()[:4], "/l -> "+s) }

// The records are laid upon the blocks in their order.
func TestP1702Records(t *testing.T) {
	image := imaged(trial.Sample(t))
	for _, s := range []api.Super{{}, small} {
		tells(t, "no record", logged(t, image, 18), s, sampleLines())
		tells(t, "one", logged(t, image, 18, recordOf(text("one"))), s, textLines("one"))
		tells(t, "two", logged(t, image, 18, recordOf(text("one")), recordOf(text("two"))), s, textLines("two"))
		tells(t, "two in turn", logged(t, image, 18, recordOf(text("two")), recordOf(text("one"))), s, textLines("one"))
	}
	p := trial.Sample(t)
	p.Change(6, func(n *api.Node) { n.Size, n.Direct[0] = 600, 42 })
	p.Entry(4, 7, api.Entry{Node: 6, Kind: api.KFile, Name: "z"})
	all := recordOf(put{3, p.Held[3]}, put{4, p.Held[4]}, text("new"), put{42, trial.Fill('q')})
	items := tells(t, "the table, a directory, a link and the last block", logged(t, image, 18, all), small, append(textLines("new"), "/z 600 0-1"))
	if len(items) == 6 && !slices.Equal(items[5].Data, trial.Fill('q')) {
		t.Errorf("P1702: the file's block is not that of the record")
	}
	var puts []put
	for b := 16; b < 32; b++ {
		puts = append(puts, put{b, trial.Fill(byte(b))})
	}
	tells(t, "as many blocks as can be", logged(t, image, 18, recordOf(puts...)), small, sampleLines())
}

// A record that is none is let go, and so are those behind it.
func TestP1702BrokenRecords(t *testing.T) {
	image := imaged(trial.Sample(t))
	one, two, three := recordOf(text("one")), recordOf(text("two")), recordOf(text("six"))
	number := func(record []byte, at int, x byte) []byte {
		record = slices.Clone(record)
		record[at] = x
		return record
	}
	pair := recordOf(put{11, trial.Fill('o')}, text("odd"))
	for what, broken := range map[string][]byte{
		"a byte":                      {1},
		"a count alone":               {1, 0},
		"no count":                    {0, 0},
		"a count of none":             number(two, 0, 0),
		"a count that is too great":   number(two, 0, 2),
		"a count with a second byte":  number(two, 1, 1),
		"a byte too few":              two[:517],
		"a byte too many":             append(slices.Clone(two), 0),
		"a block too many":            append(slices.Clone(two), make([]byte, 516)...),
		"a block behind the last":     number(two, 2, 43),
		"a block far behind the last": number(two, 5, 1),
		"a number twice":              number(pair, 2, 12),
		"falling numbers":             number(pair, 2, 13),
		"a last number too great":     number(pair, 6, 43),
		"any bytes":                   []byte("any bytes that somebody left"),
		"17 blocks":                   append([]byte{17, 0}, make([]byte, api.MaxRecord-2)...),
	} {
		lost := func(at, records int) api.Loss { return api.Loss{Kind: api.LRecord, Index: at, Other: records} }
		tells(t, what, logged(t, image, 18, broken), small, sampleLines(), lost(0, 1))
		if len(broken) < 2000 { // the log has room for it beside others
			tells(t, what+", behind others", logged(t, image, 18, one, broken), small, textLines("one"), lost(1, 1))
			tells(t, what+", ahead of others", logged(t, image, 18, one, two, broken, three, broken), small, textLines("two"), lost(2, 3))
		}
	}
	tells(t, "the last block that there is", logged(t, image, 18, number(one, 2, 42)), small, sampleLines())
}

// A log that does not open: its records are as if they had never been.
func TestP1702NoLog(t *testing.T) {
	image := logged(t, imaged(trial.Sample(t)), 18, recordOf(text("one")))
	tells(t, "whole", image, small, textLines("one"))
	for what, do := range map[string]func(image []byte){
		"both anchors gone":  func(image []byte) { fill(image, 1, 0); fill(image, 2, 255) },
		"both anchors torn":  func(image []byte) { image[512]++; image[1024]++ },
		"an anchor and data": func(image []byte) { anchored(t, image, 9<<32, []byte{1}) },
		"an anchor of epoch 0": func(image []byte) {
			fill(image, 1, 0)
			fill(image, 2, 0)
			anchored(t, image, 5, nil)
		},
		"an epoch too great":   func(image []byte) { anchored(t, image, (api.MaxEpoch+1)<<32, nil) },
		"a position too great": func(image []byte) { anchored(t, image, 9<<32+api.MaxPos+1, nil) },
	} {
		broken := slices.Clone(image)
		do(broken)
		tells(t, what, broken, small, sampleLines(), api.Loss{Kind: api.LLog, Other: 6})
	}
	worn := slices.Clone(image)
	anchored(t, worn, api.MaxEpoch<<32, nil)
	tells(t, "no epoch left", worn, small, sampleLines(), api.Loss{Kind: api.LLog, Other: 41})
	late := slices.Clone(image)
	anchored(t, late, 9<<32, nil)
	tells(t, "a later epoch", late, small, sampleLines())
	one := slices.Clone(image)
	fill(one, 1, 0)
	fill(image, 2, 0)
	if a, b := outlineOf(t, one), outlineOf(t, image); slices.Equal(a, b) {
		t.Errorf("P1702: whichever anchor is gone, the items are %q", a)
	}
}

func outlineOf(t *testing.T, image []byte) []string {
	t.Helper()
	items, _ := asWords(t, "an anchor gone", image, small)
	return outline(items)
}

// anchored has a new anchor in the place of the older one.
func anchored(t *testing.T, image []byte, number int, data []byte) {
	t.Helper()
	slot, anchor, e := seal.Renew(image[512:1024], image[1024:1536], number, data)
	is(t, "Renew", e, api.OK)
	copy(image[512*(1+slot):], anchor)
}

// What was synced and not brought home is told, whatever the home blocks hold.
func TestP1702Unhome(t *testing.T) {
	form := api.Super{Sectors: 120, Log: 60, Nodes: 8}
	d := site.Made(t, form)
	f := site.Mounted(t, d)
	site.All(t, f, site.Mkdir("/d"), site.Create("/d/f"), site.Write("/d/f", 3, "bytes"), site.Symlink("/l", "d"))
	if items, _ := asWords(t, "not synced", d.Image(), api.Super{}); len(items) != 0 {
		t.Errorf("P1702: what was not synced is told: %s", site.Short(items))
	}
	is(t, "Sync", f.Sync(), api.OK)
	lines := []string{"/d/", "/d/f 8 0-1", "/l -> d"}
	tells(t, "synced", d.Image(), api.Super{}, lines)
	image := d.Image()
	for b := 63; b < 120; b++ {
		fill(image, b, 77)
	}
	fill(image, 63+3, 0) // of the table's two blocks the second was never changed, so no record has it
	tells(t, "the homes gone", image, api.Super{}, lines)
	if _, e := fs.Mount(site.Loaded(t, image)); e != api.OK {
		t.Errorf("the records do not hold all that there is: %v", e)
	}
}
