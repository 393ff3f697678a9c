package fs_test

import (
	"fmt"
	"reflect"
	"strings"
	"testing"

	"vellum/api"
	"vellum/dir"
	"vellum/disk"
	"vellum/file"
	"vellum/fs"
	"vellum/node"
	"vellum/pool"
	"vellum/site"
	"vellum/span"
	"vellum/store"
	"vellum/trial"
	"vellum/walk"
)

var (
	small = api.Super{Sectors: 64, Log: 18, Nodes: 8}
	wide  = api.Super{Sectors: 400, Log: 60, Nodes: 100}
)

func is(t *testing.T, what string, got, want api.Errno) {
	t.Helper()
	trial.Is(t, what, got, want)
}

// by is the operation for a held node; its path is none, as nobody looks at it.
func by(node int, op api.Op) api.Op {
	op.Node, op.Path = node, "no path"
	return op
}

func on(tx *store.Tx) *walk.Walk {
	return walk.On(dir.On(file.On(span.On(node.On(pool.On(tx))))))
}

// pair is a file system and the model of it: what is done is done at both.
type pair struct {
	t *testing.T
	d *disk.Disk
	f *fs.FS
	m *model
}

func paired(t *testing.T, form api.Super) *pair {
	t.Helper()
	d := site.Made(t, form)
	blocks := form.Sectors - 3 - form.Log - 2 - form.Nodes/4
	return &pair{t, d, site.Mounted(t, d), newModel(blocks, form.Nodes)}
}

// same says whether two replies are the same: nil and empty lists are.
func same(a, b api.Reply) bool {
	for _, r := range []*api.Reply{&a, &b} {
		if len(r.Data) == 0 {
			r.Data = nil
		}
		if len(r.Entries) == 0 {
			r.Entries = nil
		}
		if len(r.Runs) == 0 {
			r.Runs = nil
		}
	}
	return reflect.DeepEqual(a, b)
}

// says is a reply or an operation in few words.
func says(x any) string {
	text := fmt.Sprintf("%+v", x)
	if len(text) > 600 {
		text = text[:600] + " .."
	}
	return text
}

// does does an operation that answers this error, and whatever else the model says.
func (p *pair) does(op api.Op, want api.Errno) api.Reply {
	p.t.Helper()
	got := p.f.Do(op)
	told, steps := p.m.do(op)
	if got.Err != want || !same(got, told) {
		p.t.Fatalf("%s: %s, want %v; the model says %s", says(op), says(got), want, says(told))
	}
	if len(steps) > 0 {
		p.m = steps[len(steps)-1]
	}
	p.room()
	return got
}

// all does operations that are not refused.
func (p *pair) all(ops ...api.Op) {
	p.t.Helper()
	for _, op := range ops {
		p.does(op, api.OK)
	}
}

// answer is an operation and what it answers.
type answer struct {
	op   api.Op
	want api.Errno
}

func (p *pair) answers(list []answer) {
	p.t.Helper()
	for _, a := range list {
		p.does(a.op, a.want)
	}
}

func (p *pair) hold(path string, want api.Errno) int {
	p.t.Helper()
	k, e := p.f.Hold(path)
	if told, says := p.m.hold(path); e != want || k != told || e != says {
		p.t.Fatalf("P1323: Hold %q: %d, %v, want %v; the model says %d, %v", path, k, e, want, told, says)
	}
	p.room()
	return k
}

func (p *pair) release(k int, want api.Errno) {
	p.t.Helper()
	e := p.f.Release(k)
	if says := p.m.release(k); e != want || e != says {
		p.t.Fatalf("P1323: Release %d: %v, want %v; the model says %v", k, e, want, says)
	}
	p.room()
}

// room asks that there is as much of it as the model says.
func (p *pair) room() {
	p.t.Helper()
	blocks, nodes, e := p.f.Space()
	b, n := p.m.space()
	if blocks != b || nodes != n || e != api.OK {
		p.t.Fatalf("P1324, P1329: Space %d, %d, %v, the model says %d, %d", blocks, nodes, e, b, n)
	}
}

// again mounts anew, without a cut.
func (p *pair) again() {
	p.t.Helper()
	p.f = site.Mounted(p.t, p.d)
	p.m.drop()
	p.tree()
}

// tree asks that the whole tree is as the model says, and whole.
func (p *pair) tree() {
	p.t.Helper()
	if got, want := treeOf(p.f.Do), treeOf(p.m.once); got != want {
		p.t.Fatalf("P1325: the tree is\n%q, want\n%q", got, want)
	}
	p.whole()
}

// whole asks that Check counts what the model has, and finds no fault.
func (p *pair) whole() {
	p.t.Helper()
	p.room()
	want := api.Report{Used: p.m.blocks}
	free, _ := p.m.space()
	want.Used -= free
	for _, x := range p.m.things {
		switch {
		case x.kind == api.KDir:
			want.Dirs++
		case x.kind == api.KLink:
			want.Links++
		case x.links > 0:
			want.Files++
		default:
			want.Orphans++
		}
	}
	r, e := p.f.Check(2)
	is(p.t, "Check", e, api.OK)
	if r.Faults = nil; !reflect.DeepEqual(r, want) {
		p.t.Fatalf("P1324: Check: %+v, want %+v", r, want)
	}
}

// treeOf is all that can be asked of a tree by its names.
func treeOf(ask func(api.Op) api.Reply) string {
	var text strings.Builder
	var visit func(path string)
	visit = func(path string) {
		r := ask(site.Lstat(path))
		fmt.Fprintf(&text, "%q %v %v", path, r.Err, r.Stat)
		switch r.Stat.Kind {
		case api.KDir:
			entries := ask(site.List(path)).Entries
			fmt.Fprintf(&text, " in %d: %v\n", ask(site.Stat(path+"..")).Stat.Node, entries)
			for _, e := range entries {
				visit(path + e.Name + "/")
			}
		case api.KLink:
			fmt.Fprintf(&text, " %q\n", ask(site.Readlink(path)).Text)
		default:
			rows := ask(site.Runs(path)).Runs
			fmt.Fprintf(&text, " %v ", rows)
			for _, row := range rows {
				for at := row.From * 512; at < row.To*512; at += api.MaxIO {
					text.Write(ask(site.Read(path, at, min(api.MaxIO, row.To*512-at))).Data)
				}
			}
			text.WriteByte('\n')
		}
	}
	visit("/")
	return text.String()
}

// modelOf is the tree that lies in an image, told by the layers below.
func modelOf(t *testing.T, image []byte) *model {
	t.Helper()
	s := trial.Opened(t, site.Loaded(t, image))
	w := on(trial.Begun(t, s))
	m := newModel(w.Layout().Blocks-w.Layout().Data, w.Layout().Nodes)
	clear(m.things)
	numbers, e := w.All(0)
	is(t, "All", e, api.OK)
	for _, k := range numbers {
		n, _ := w.Load(k)
		x := thing{kind: n.Kind, links: n.Links, parent: n.Parent, size: n.Size}
		if n.Kind == api.KDir {
			x.slots = make([]api.Entry, n.Size/64)
			entries, _ := w.List(k)
			for _, entry := range entries {
				x.slots[entry.Slot] = entry
			}
		} else {
			x.blocks = map[int][512]byte{}
			rows, _ := w.Runs(k)
			for _, row := range rows {
				for i := row.From; i < row.To; i++ {
					data, _ := w.ReadAt(k, 512*i, 512)
					var block [512]byte
					copy(block[:], data)
					x.blocks[i] = block
				}
			}
		}
		m.things[k] = x
	}
	return m
}
