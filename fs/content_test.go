package fs_test

import (
	"math"
	"slices"
	"strings"
	"testing"

	"vellum/api"
	"vellum/site"
	"vellum/trial"
)

// reads asks for bytes of a file.
func (p *pair) reads(path string, off, n int, want string) {
	p.t.Helper()
	if r := p.does(site.Read(path, off, n), api.OK); string(r.Data) != want || r.N != len(want) {
		p.t.Errorf("P1314: Read %q, %d, %d: %q, %d, want %q", path, off, n, r.Data, r.N, want)
	}
}

func TestP1314(t *testing.T) {
	p := planted(t)
	p.reads("/a", 0, 0, "")
	p.reads("/a", 0, 4, "text")
	p.reads("/a", 0, 65536, "text")
	p.reads("/a", 3, 1, "t")
	p.reads("/a", 3, 2, "t")
	p.reads("/a", 4, 5, "")
	p.reads("/a", math.MaxInt, 65536, "")
	p.reads("/d/b", 0, 9, "")
	p.all(site.Truncate("/a", 70000))
	p.reads("/a", 2, 65536, "xt"+strings.Repeat("\x00", 65534))
	p.reads("/a", 69990, 65536, strings.Repeat("\x00", 10))
}

// The bytes are cut at multiples of 4096, and each piece has all the room it needs or none.
func TestP1315(t *testing.T) {
	p := paired(t, api.Super{Sectors: 400, Log: 18, Nodes: 4})
	p.all(site.Create("/a"))
	dice := trial.NewDice(1315)
	for _, off := range []int{0, 1, 511, 512, 4095, 4096, 4097, 5119, 5120, 70656, 70655} {
		for _, n := range []int{0, 1, 2, 511, 512, 513, 4095, 4096, 4097, 8192, 8193} {
			data := string(dice.Bytes(n))
			if r := p.does(site.Write("/a", off, data), api.OK); r.N != n {
				t.Errorf("P1315: N %d, want %d", r.N, n)
			}
			p.reads("/a", off, n, data)
		}
	}
	p.tree()
	data := string(dice.Bytes(65536))
	p.all(site.Write("/a", 100, data))
	p.reads("/a", 100, 65536, data)
	for _, off := range []int{api.MaxFile, api.MaxFile - 1, api.MaxFile - 4096, api.MaxFile - 5000} {
		data := strings.Repeat("e", min(5000, api.MaxFile-off))
		p.all(site.Truncate("/a", 0), site.Write("/a", off, data))
		p.reads("/a", off, 5000, data)
	}
	p.tree()
}

func TestP1315Room(t *testing.T) {
	text := strings.Repeat("0123456789abcde\n", 4096)
	for _, c := range []struct {
		free, off, n, want int // how many bytes are written
	}{
		{3, 0, 1536, 1536}, {3, 0, 1537, 0}, {8, 0, 4096, 4096}, {8, 0, 4097, 4096}, {8, 0, 65536, 4096}, {7, 0, 4096, 0}, {7, 512, 65536, 3584}, {9, 0, 5120, 4096}, {10, 0, 5120, 5120},
		{2, 5119, 2, 0}, {3, 5119, 2, 2}, {2, 5120, 1, 1}, {1, 5120, 1, 0}, {12, 100, 5020, 5020}, {12, 0, 5633, 4096}, {13, 0, 5633, 5633}, {2, 512 * 138, 1, 0}, {3, 512 * 138, 1, 1}, {0, 0, 1, 0}, {1, 4095, 2, 1}, {2, 4095, 2, 2}, {17, 1, 12000, 8191},
	} {
		p := filled(t, c.free, 1)
		p.all(site.Create("/w"))
		want := api.OK
		if c.want < c.n {
			want = api.ErrNoSpace
		}
		r := p.does(site.Write("/w", c.off, text[:c.n]), want)
		if r.N != c.want {
			t.Errorf("P1315: with %d blocks free, %d bytes at %d: N %d, want %d", c.free, c.n, c.off, r.N, c.want)
		}
		if c.want > 0 {
			p.reads("/w", c.off, 65536, text[:c.want])
		}
		p.tree()
		p.all(site.Write("/fill", 0, "over what is there"), site.Unlink("/w"))
	}
}

func TestP1316(t *testing.T) {
	p := paired(t, small)
	p.all(site.Create("/a"), site.Write("/a", 0, strings.Repeat("0123456789", 900)))
	for _, n := range []int{9000, 8999, 8704, 8193, 5121, 5120, 5119, 600, 513, 512, 511, 700, 1, 0, 1, api.MaxFile, api.MaxFile - 1, 512, 0} {
		p.all(site.Truncate("/a", n))
		if r := p.does(site.Stat("/a"), api.OK); r.Stat.Size != n {
			t.Errorf("P1316: size %d, want %d", r.Stat.Size, n)
		}
		p.tree()
	}
	p = filled(t, 0, 0)
	p.all(site.Truncate("/f0", api.MaxFile), site.Truncate("/fill", 700), site.Truncate("/fill", 8000), site.Truncate("/fill", 0))
	p.tree()
}

func TestP1317(t *testing.T) {
	for _, c := range [][2]int{{0, 0}, {0, 1}, {0, 512}, {1, 511}, {1, 512}, {511, 514}, {512, 512}, {100, 3000}, {8999, 1}, {8999, 2}, {8704, 296}, {8704, 295}, {9000, 1}, {9000, 0}, {20000, 5}, {0, 9000}, {0, math.MaxInt}, {1, math.MaxInt}, {math.MaxInt, math.MaxInt}, {math.MaxInt, 0}, {4000, 1 << 40}} {
		p := paired(t, small)
		p.all(site.Create("/a"), site.Write("/a", 0, strings.Repeat("0123456789", 900)), site.Punch("/a", c[0], c[1]))
		if r := p.does(site.Stat("/a"), api.OK); r.Stat.Size != 9000 {
			t.Errorf("P1317: size %d", r.Stat.Size)
		}
		p.tree()
	}
	p := filled(t, 0, 0)
	p.all(site.Punch("/fill", 5, 6), site.Punch("/fill", 0, 1<<40))
	p.tree()
}

func TestP1322(t *testing.T) {
	p := paired(t, small)
	p.all(site.Create("/a"))
	asks := func(want ...api.Run) {
		t.Helper()
		if r := p.does(site.Runs("/a"), api.OK); !slices.Equal(r.Runs, want) || r.N != len(want) {
			t.Errorf("P1322: %v, %d, want %v", r.Runs, r.N, want)
		}
	}
	asks()
	p.all(site.Write("/a", 0, "x"), site.Write("/a", 512*9, strings.Repeat("x", 1024)), site.Write("/a", 512*137, strings.Repeat("x", 600)))
	asks(api.Run{From: 0, To: 1}, api.Run{From: 9, To: 11}, api.Run{From: 137, To: 139})
	p.all(site.Punch("/a", 512*10, 512), site.Truncate("/a", 512*138))
	asks(api.Run{From: 0, To: 1}, api.Run{From: 9, To: 10}, api.Run{From: 137, To: 138})
}

func TestP1320(t *testing.T) {
	p := planted(t)
	p.all(site.Create("/d/\xff"), site.Create("/d/a"), site.Create("/d/ab"), site.Create("/d/a."), site.Unlink("/d/b"), site.Create("/d/z"))
	r := p.does(site.List("/d"), api.OK)
	var names []string
	for _, e := range r.Entries {
		names = append(names, e.Name)
	}
	if !slices.Equal(names, []string{"a", "a.", "ab", "z", "\xff"}) || r.N != 5 || r.Entries[3] != (api.Entry{Node: 4, Kind: api.KFile, Name: "z"}) {
		t.Errorf("P1320: %+v", r)
	}
}

// What is handed in is neither changed nor kept; what is answered is nobody else's.
func TestP2(t *testing.T) {
	p := planted(t)
	data := []byte(strings.Repeat("mine", 2000))
	was := slices.Clone(data)
	op := site.Write("/a", 0, "")
	op.Data = data[:5000]
	p.all(op)
	if !slices.Equal(data, was) {
		t.Error("P2: Write changes what it is given")
	}
	clear(data)
	p.reads("/a", 0, 5000, string(was[:5000]))
	for _, ask := range []api.Op{site.Read("/a", 0, 5000), site.Read("/d/b", 0, 5), site.List("/"), site.List("/e"), site.Runs("/a"), site.Runs("/d/b")} {
		spoil := p.f.Do(ask)
		want := p.f.Do(ask)
		for _, data := range [][]byte{spoil.Data[:cap(spoil.Data)]} {
			clear(data)
		}
		clear(spoil.Entries[:cap(spoil.Entries)])
		clear(spoil.Runs[:cap(spoil.Runs)])
		if got := p.does(ask, api.OK); !same(got, want) {
			t.Errorf("P2: %s is another answer, as the one before was written to", says(ask))
		}
	}
	p.tree()
}
