package rows_test

import (
	"bytes"
	"slices"
	"testing"

	"vellum/api"
	"vellum/rows"
	"vellum/site"
)

// The file of a path, and of a node that is held, and what is asked for it.
func TestRead(t *testing.T) {
	f := site.Mounted(t, site.Made(t, api.Super{Sectors: 500, Log: 18, Nodes: 4}))
	long := bytes.Repeat([]byte("0123456789abcde"), 65536/15+40) // 66135 bytes: 130 indexes, the last one not full
	site.All(t, f, site.Create("/a"), site.Write("/a", 512, "x"), site.Write("/a", 5120, string(long[:65536])), site.Write("/a", 5120+65536, string(long[65536:])))
	held, e := f.Hold("/a")
	if e != api.OK {
		t.Fatal(e)
	}
	want := make([]byte, 512*131)
	want[0] = 'x'
	copy(want[512:], long)
	for _, file := range []api.Op{{Path: "/a"}, {Node: held}} {
		var asked []api.Op
		runs, data := rows.Read(file, func(op api.Op) api.Reply {
			asked = append(asked, op)
			return f.Do(op)
		})
		if !slices.Equal(runs, []api.Run{{From: 1, To: 2}, {From: 10, To: 140}}) || !bytes.Equal(data, want) {
			t.Errorf("%+v: %v and %d bytes", file, runs, len(data))
		}
		for i, part := range []api.Op{{Kind: api.OpRuns}, {Kind: api.OpRead, Off: 512, N: 512}, {Kind: api.OpRead, Off: 5120, N: 65536}, {Kind: api.OpRead, Off: 5120 + 65536, N: 1024}} {
			part.Path, part.Node = file.Path, file.Node
			if len(asked) != 4 || asked[i].Kind != part.Kind || asked[i].Path != part.Path || asked[i].Node != part.Node || asked[i].Off != part.Off || asked[i].N != part.N {
				t.Errorf("%+v: asked %+v, and by %d is wanted %+v", file, asked, i, part)
			}
		}
	}
}

// Where there is no row, or the caller has nothing to tell any more, there are no bytes.
func TestReadOfNothing(t *testing.T) {
	f := site.Mounted(t, site.Made(t, api.Super{Sectors: 64, Log: 18, Nodes: 4}))
	site.All(t, f, site.Create("/a"), site.Truncate("/a", 5000))
	for _, path := range []string{"/a", "/", "/none"} {
		if runs, data := rows.Read(api.Op{Path: path}, f.Do); len(runs) != 0 || len(data) != 0 {
			t.Errorf("%s: %v and %d bytes", path, runs, len(data))
		}
	}
	if runs, data := rows.Read(api.Op{Path: "/a"}, func(api.Op) api.Reply { return api.Reply{} }); len(runs) != 0 || len(data) != 0 {
		t.Errorf("of a caller that is done: %v and %d bytes", runs, len(data))
	}
}
