package fs_test

import (
	"bytes"
	"strconv"
	"strings"
	"testing"

	"vellum/api"
	"vellum/disk"
	"vellum/fs"
	"vellum/site"
	"vellum/trial"
)

// mountsIn mounts a disk with as few reads as are promised, and none out of range.
func mountsIn(t *testing.T, d *disk.Disk) (*fs.FS, api.Errno) {
	t.Helper()
	was := d.Counts()
	f, e := fs.Mount(d)
	now := d.Counts()
	if reads := now.Reads - was.Reads; reads > 256*(d.Sectors()+1) || now.Refused != was.Refused {
		t.Fatalf("P1303: %d reads of a disk of %d sectors, %d refused", reads, d.Sectors(), now.Refused-was.Refused)
	}
	if (f != nil) != (e == api.OK) {
		t.Fatalf("P1302: %v beside %v", f, e)
	}
	return f, e
}

// As many orphans as there can be, without blocks, with one each, with as many as there can be.
func TestP1303Orphans(t *testing.T) {
	t.Parallel()
	for _, c := range []struct {
		form          api.Super
		orphans, size int
	}{
		{api.Super{Sectors: 280, Log: 18, Nodes: 1024}, 1023, 0},
		{api.Super{Sectors: 1600, Log: 18, Nodes: 1024}, 1023, 1},
		{api.Super{Sectors: 25, Log: 18, Nodes: 4}, 3, 0},
		{api.Super{Sectors: 2048, Log: 256, Nodes: 400}, 399, 100000},
		{api.Super{Sectors: 2048, Log: 18, Nodes: 4}, 3, 8000000},
	} {
		p := littered(t, c.form, c.orphans, c.size)
		for k := range c.orphans {
			if c.orphans > 3 || c.size == 0 {
				break
			}
			for at := 0; p.f.Do(by(2+k, site.Write("", at, "y"))).Err == api.OK && at < 8000000-65536; at += 65536 + 512 {
			}
		}
		is(t, "Sync", p.f.Sync(), api.OK)
		d := site.Loaded(t, p.d.Image())
		f, e := mountsIn(t, d)
		is(t, "Mount", e, api.OK)
		q := &pair{t, d, f, newModel(p.m.blocks, p.m.numbers)}
		q.tree()
	}
}

// vandal does something to an image.
func vandal(d *trial.Dice, image, other []byte, home int) {
	sectors := len(image) / 512
	at := func(from int) int { return 512 * (from + d.Below(sectors-from)) }
	switch d.Below(8) {
	case 0:
		image[d.Below(len(image))] ^= 1 << d.Below(8)
	case 1:
		image[512*home+d.Below(len(image)-512*home)] ^= 1 << d.Below(8)
	case 2:
		a, b := at(home), at(home)
		x := bytes.Clone(image[a : a+512])
		copy(image[a:a+512], image[b:b+512])
		copy(image[b:], x)
	case 3:
		a := at(0)
		copy(image[a:a+512], other[a:a+512])
	case 4:
		a := at(home)
		clear(image[a : a+512])
	case 5:
		a := at(3)
		copy(image[a:], d.Bytes(512))
	case 6: // the blocks of files are said nothing of
		a := at(home + 6)
		copy(image[a:], d.Bytes(1+d.Below(9)))
	default:
		copy(image[at(1):], image[at(1):][:512])
	}
}

// What a Mount takes of whatever disk is a file system that answers by the tree that lies there.
func TestP1303Any(t *testing.T) {
	t.Parallel()
	for seed := range 4 {
		t.Run("", func(t *testing.T) {
			t.Parallel()
			dice := trial.NewDice(1303 + seed)
			form := api.Super{Sectors: 90, Log: 18 + seed, Nodes: 12}
			p := newPlayer(paired(t, form))
			d := &drawer{dice, p}
			var images [][]byte
			for range 40 {
				for range 8 {
					p.play(d.call())
				}
				p.play(call{what: trial.One(dice, doesSync, doesSync, doesCheckpoint)})
				p.forget()
				images = append(images, p.d.Image())
			}
			taken := 0
			for range 400 {
				image := bytes.Clone(trial.One(dice, images...))
				for range 1 + dice.Below(3) {
					vandal(dice, image, trial.One(dice, images...), 3+form.Log)
				}
				disk := site.Loaded(t, image)
				f, e := mountsIn(t, disk)
				if e == api.ErrCorrupt || e == api.ErrWorn {
					continue
				}
				is(t, "Mount", e, api.OK)
				taken++
				q := &pair{t, disk, f, modelOf(t, disk.Image())}
				q.tree()
				goOn(t, dice, q)
			}
			if taken < 50 {
				t.Errorf("%d of 400 images were taken: few", taken)
			}
		})
	}
}

// goOn plays calls at a file system that came from elsewhere.
func goOn(t *testing.T, dice *trial.Dice, q *pair) {
	t.Helper()
	p := newPlayer(q)
	d := &drawer{dice, p}
	for range 25 {
		if !p.play(d.call()) {
			t.Fatal("dead without a fuse")
		}
		p.room()
	}
	p.tree()
	p.crash(nil)
}

// Junk of all kinds, with a superblock and without one.
func TestP1303Junk(t *testing.T) {
	t.Parallel()
	dice := trial.NewDice(13030)
	answers := map[api.Errno]int{}
	for range 300 {
		form := trial.One(dice, small, api.Super{Sectors: 25, Log: 18, Nodes: 4}, api.Super{Sectors: 300, Log: 18, Nodes: 1024})
		image := site.Made(t, form).Image()
		from := trial.One(dice, 0, 1, 3, 3+form.Log, 3+form.Log+2)
		for range 1 + dice.Below(30) {
			at := 512 * (from + dice.Below(form.Sectors-from))
			copy(image[at:at+512], trial.One(dice, dice.Bytes(512), trial.Fill(byte(dice.Below(256))), image[:512], image[512*(5+form.Log):][:512]))
		}
		_, e := mountsIn(t, site.Loaded(t, image))
		answers[e]++
	}
	if answers[api.ErrCorrupt] < 100 || answers[api.OK] < 3 {
		t.Errorf("the draw is thin: %v", answers)
	}
}

// A tree laid by the layers below in an order that no operations have: high numbers, blocks from behind, gaps in directories, links of any text.
func TestP1303Elsewhere(t *testing.T) {
	t.Parallel()
	form := api.Super{Sectors: 200, Log: 30, Nodes: 40}
	d, s, w := trial.Fresh(t, form, 0, on)
	step := func(do func()) {
		do()
		is(t, "Commit", w.Commit(), api.OK)
		w = on(trial.Begun(t, s))
	}
	born := func(kind, parent int) int {
		k, e := w.Make(kind, parent)
		is(t, "Make", e, api.OK)
		return k
	}
	relink := func(k, links int) {
		n, _ := w.Load(k)
		n.Links = links
		is(t, "Save", w.Save(k, n), api.OK)
	}
	step(func() { born(api.KDir, 1) })
	step(func() { // a file at whose end the blocks lie that are freed first
		relink(born(api.KFile, 0), 1)
		is(t, "Add", w.Add(1, "ballast", 2, api.KFile), api.OK)
	})
	for at := 0; at < 100*512; at += 4096 {
		step(func() { is(t, "WriteAt", w.WriteAt(2, at, bytes.Repeat([]byte{7}, 4096)), api.OK) })
	}
	for i := range 25 {
		step(func() {
			k := born(api.KLink, 0)
			relink(k, 1)
			is(t, "Add", w.Add(1, "l"+strconv.Itoa(i), k, api.KLink), api.OK)
			is(t, "WriteAt", w.WriteAt(k, 0, []byte(trial.One(trial.NewDice(i), "/", ".", "..", "l1", "//ballast", strings.Repeat("z", 255), "\xff\x01", "l3/.."))), api.OK)
		})
	}
	for i := range 12 {
		step(func() {
			is(t, "Del", w.Del(1, "l"+strconv.Itoa(i+6)), api.OK)
			is(t, "Cut", w.Cut(3+i+6, 0), api.OK)
			is(t, "Free", w.Free(3+i+6), api.OK)
		})
	}
	step(func() { is(t, "Resize", w.Resize(2, 1000), api.OK) })
	step(func() { born(api.KFile, 0) }) // an orphan
	is(t, "Sync", s.Sync(), api.OK)
	m := modelOf(t, d.Image())
	m.drop()
	f, e := mountsIn(t, d)
	is(t, "Mount", e, api.OK)
	q := &pair{t, d, f, m}
	q.tree()
	goOn(t, trial.NewDice(13031), q)
}

// Where somebody writes to the disk beside a file system nothing is promised of it, but that its calls end, ask for no sector out of range, and tell nothing beside an error.
func TestP9Junk(t *testing.T) {
	t.Parallel()
	dice := trial.NewDice(1309)
	answers := map[api.Errno]int{}
	for round := range 60 {
		p := newPlayer(planted(t))
		d := &drawer{dice, p}
		for range 30 {
			p.play(call{Op: d.op()})
		}
		is(t, "Checkpoint", p.f.Checkpoint(), api.OK)
		for range 30 {
			image := p.d.Image()
			vandal(dice, image, site.Made(t, api.Super{Sectors: 100, Log: 18, Nodes: 16}).Image(), 3+18)
			for at := 3 + 18; at < 100; at++ {
				is(t, "Write", p.d.Write(at, image[512*at:512*at+512]), api.OK)
			}
			for range 6 {
				c := d.call()
				if c.what == doesMount {
					continue
				}
				answers[anyhow(t, p.f, c)]++
			}
		}
		if c := p.d.Counts(); c.Refused != 0 {
			t.Fatalf("P9: round %d: %+v", round, c)
		}
	}
	for _, e := range []api.Errno{api.OK, api.ErrCorrupt, api.ErrNotFound} {
		if answers[e] < 100 {
			t.Errorf("the draw is thin: %v was answered %d times", e, answers[e])
		}
	}
}

// anyhow does a call, whatever it answers; but beside an error nothing.
func anyhow(t *testing.T, f *fs.FS, c call) api.Errno {
	t.Helper()
	switch c.what {
	case doesHold:
		k, e := f.Hold(c.Path)
		if e != api.OK && k != 0 {
			t.Fatalf("P4: Hold: %d beside %v", k, e)
		}
		return e
	case doesRelease:
		return f.Release(c.Node)
	case doesSync:
		return f.Sync()
	case doesCheckpoint:
		return f.Checkpoint()
	}
	r := f.Do(c.Op)
	told := r
	if told.Err = api.OK; c.Kind == api.OpWrite && r.Err == api.ErrNoSpace {
		told.N = 0
	}
	if r.Err != api.OK && !same(told, api.Reply{}) {
		t.Fatalf("P4: %s: %s", says(c), says(r))
	}
	return r.Err
}
