package salvage_test

import (
	"bytes"
	"fmt"
	"slices"
	"strings"
	"testing"

	"vellum/api"
	"vellum/disk"
	"vellum/dump"
	"vellum/fs"
	"vellum/salvage"
	"vellum/site"
	"vellum/trial"
	"vellum/wal"
)

var (
	least = api.Super{Sectors: 25, Log: 18, Nodes: 4}   // Home 21, Blocks 4, Data 3
	small = api.Super{Sectors: 64, Log: 18, Nodes: 8}   // Home 21, Blocks 43, Data 4
	wide  = api.Super{Sectors: 256, Log: 18, Nodes: 32} // Home 21, Blocks 235, Data 10
	large = api.Super{Sectors: 2048, Log: 18, Nodes: 1024}
)

// is is short for what the tests of all packages share.
var is = trial.Is

// imaged is the image of a disk with a plate and a log without records.
func imaged(p *trial.Plate) []byte {
	p.T.Helper()
	d, _ := trial.Laid(p.T, p.Form, p.Held)
	return d.Image()
}

// logged is an image with these records in its log, whatever they are.
func logged(t *testing.T, image []byte, log int, records ...[]byte) []byte {
	t.Helper()
	d := site.Loaded(t, image)
	l, _, e := wal.Open(d, 1, log)
	is(t, "wal.Open", e, api.OK)
	is(t, "Start", l.Start(), api.OK)
	for _, record := range records {
		is(t, "Append", l.Append(record), api.OK)
	}
	is(t, "Sync", l.Sync(), api.OK)
	return d.Image()
}

// made is the image of a file system on which operations were done, behind a Checkpoint.
func made(t *testing.T, form api.Super, ops ...api.Op) []byte {
	t.Helper()
	d := site.Made(t, form)
	f := site.Mounted(t, d)
	site.All(t, f, ops...)
	is(t, "Checkpoint", f.Checkpoint(), api.OK)
	return d.Image()
}

// fill overwrites a sector by one byte.
func fill(image []byte, sector int, x byte) { copy(image[512*sector:], trial.Fill(x)) }

// outline is of each item what is told of it but its bytes.
func outline(items []api.Item) []string {
	var list []string
	for _, x := range items {
		switch x.Kind {
		case api.KFile:
			line := fmt.Sprint(x.Path, " ", x.Size)
			for _, r := range x.Runs {
				line += fmt.Sprintf(" %d-%d", r.From, r.To)
			}
			list = append(list, line)
		case api.KDir:
			list = append(list, x.Path+"/")
		case api.KLink:
			list = append(list, x.Path+" -> "+x.Target)
		case api.KName:
			list = append(list, x.Path+" = "+x.Target)
		}
	}
	return list
}

// asWords asks that Items answers as the words do, of bytes that it leaves alone, and that what it tells is a right list.
func asWords(t *testing.T, what string, image []byte, s api.Super) ([]api.Item, []api.Loss) {
	t.Helper()
	kept := bytes.Clone(image)
	items, losses, e := salvage.Items(image, s)
	wantItems, wantLosses, want := itemsByWords(kept, s)
	if e != want || e != api.OK && (len(items) > 0 || len(losses) > 0) {
		t.Fatalf("P1702: %s: Items: %d items, %d losses, %v, want %v", what, len(items), len(losses), e, want)
	}
	if !slices.Equal(losses, wantLosses) {
		t.Fatalf("P1702: %s: losses %.3000v, want %.3000v", what, fmt.Sprint(losses), fmt.Sprint(wantLosses))
	}
	if !site.Same(items, wantItems) {
		t.Fatalf("P1702: %s: items %.3000s, want %.3000s", what, site.Short(items), site.Short(wantItems))
	}
	if !bytes.Equal(image, kept) {
		t.Fatalf("P2: %s: Items changed the image", what)
	}
	if _, e := dump.Pack(items); e != api.OK && e != api.ErrLong {
		t.Fatalf("P1706: %s: Pack of %d items: %v", what, len(items), e)
	}
	return items, losses
}

// tells asks for an outline of the items and for the losses.
func tells(t *testing.T, what string, image []byte, s api.Super, lines []string, losses ...api.Loss) []api.Item {
	t.Helper()
	items, lost := asWords(t, what, image, s)
	if got := outline(items); !slices.Equal(got, lines) {
		t.Errorf("P1702: %s: the items are\n\t%s\nwant\n\t%s", what, strings.Join(got, "\n\t"), strings.Join(lines, "\n\t"))
	}
	if !slices.Equal(lost, losses) {
		t.Errorf("P1702: %s: the losses are %+v, want %+v", what, lost, losses)
	}
	return items
}

// mounted is the file system on a disk loaded from an image; false, if Mount refuses it.
func mounted(t *testing.T, image []byte) (*disk.Disk, *fs.FS, bool) {
	t.Helper()
	d := site.Loaded(t, image)
	f, e := fs.Mount(d)
	return d, f, e == api.OK
}

// change is a thing that is done to the sample, and what is told then.
type change struct {
	what   string
	do     func(p *trial.Plate)
	lines  []string
	losses []api.Loss
}

// told asks of each of these, on a sample of its own, what is told.
func told(t *testing.T, list []change) {
	t.Helper()
	for _, c := range list {
		p := trial.Sample(t)
		c.do(p)
		tells(t, c.what, imaged(p), small, c.lines, c.losses...)
	}
}

// The lines of the sample, by what may be done to each.
const (
	lineD = "/d/"
	lineE = "/d/e/"
	lineG = "/d/g 136292 0-1 10-11 266-267"
	lineF = "/f = /d/g"
	lineL = "/l -> d/g"
)

// sampleLines is the outline of the sample.
func sampleLines() []string { return []string{lineD, lineE, lineG, lineF, lineL} }

// with are the lines of the sample with the file's size and rows as these.
func with(rows string) []string {
	return []string{lineD, lineE, "/d/g " + rows, lineF, lineL}
}
