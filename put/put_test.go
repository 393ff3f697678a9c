package put_test

import (
	"bytes"
	"slices"
	"testing"

	"vellum/api"
	"vellum/put"
	"vellum/site"
	"vellum/trial"
)

func alike(a, b api.Op) bool {
	return a.Kind == b.Kind && a.Path == b.Path && a.Other == b.Other && a.Node == b.Node && a.Off == b.Off && a.N == b.N && bytes.Equal(a.Data, b.Data)
}

// asks asks for just these operations.
func asks(t *testing.T, what string, item api.Item, want ...api.Op) {
	t.Helper()
	got := put.Operations(item)
	if !slices.EqualFunc(got, want, alike) {
		t.Errorf("%s: %d operations, want %d", what, len(got), len(want))
	}
}

// The table of P1504.
func TestP1504Operations(t *testing.T) {
	asks(t, "a directory", api.Item{Kind: api.KDir, Path: "/d"}, site.Mkdir("/d"))
	asks(t, "a link", api.Item{Kind: api.KLink, Path: "/l", Target: "t"}, site.Symlink("/l", "t"))
	asks(t, "a name", api.Item{Kind: api.KName, Path: "/n", Target: "/f"}, site.Link("/f", "/n"))
	asks(t, "an empty file", api.Item{Kind: api.KFile, Path: "/f"}, site.Create("/f"))
	asks(t, "a hole", api.Item{Kind: api.KFile, Path: "/f", Size: 5}, site.Create("/f"), site.Truncate("/f", 5))
	data := trial.NewDice(1504).Bytes(512 * 4)
	asks(t, "rows", api.Item{Kind: api.KFile, Path: "/f", Size: 512*9 + 7, Runs: []api.Run{{From: 1, To: 3}, {From: 8, To: 10}}, Data: data},
		site.Create("/f"), site.Truncate("/f", 512*9+7), site.Write("/f", 512, string(data[:1024])), site.Write("/f", 512*8, string(data[1024:1024+519])))
}

// Pieces of 65536 bytes, the last one shorter; one that ends with a piece has none behind it.
func TestP1504Pieces(t *testing.T) {
	data := trial.NewDice(15041).Bytes(512 * 300)
	for size, pieces := range map[int]int{512 * 300: 3, 512*300 - 1: 3, 65536*2 + 1: 3, 65536 * 2: 2, 65536*2 - 1: 2, 65536: 1} {
		indexes := (size + 511) / 512
		want := []api.Op{site.Create("/f"), site.Truncate("/f", size)}
		for i := range pieces {
			want = append(want, site.Write("/f", 65536*i, string(data[65536*i:min(size, 65536*(i+1))])))
		}
		asks(t, "pieces", api.Item{Kind: api.KFile, Path: "/f", Size: size, Runs: []api.Run{{From: 0, To: indexes}}, Data: data[:512*indexes]}, want...)
	}
}

// Writes alone: of rows that are some of a file's, which is of that size already.
func TestP1504Writes(t *testing.T) {
	data := trial.NewDice(15042).Bytes(512 * 3)
	got := put.Writes(api.Item{Kind: api.KFile, Path: "/f", Size: 512*9 + 7, Runs: []api.Run{{From: 2, To: 4}, {From: 9, To: 10}}, Data: data})
	want := []api.Op{site.Write("/f", 1024, string(data[:1024])), site.Write("/f", 512*9, string(data[1024:1031]))}
	if !slices.EqualFunc(got, want, alike) {
		t.Errorf("%d operations, want %d", len(got), len(want))
	}
	if got := put.Writes(api.Item{Kind: api.KFile, Path: "/f", Size: 9000}); len(got) != 0 {
		t.Errorf("%d operations for no rows", len(got))
	}
}
