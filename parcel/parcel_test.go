package parcel_test

import (
	"bytes"
	"math"
	"slices"
	"strings"
	"testing"

	"vellum/api"
	"vellum/parcel"
	"vellum/site"
	"vellum/trial"
)

// samples are paths, written well or not.
func samples() []string {
	list := []string{"", "/", "//", "a", "a/b", "/a", "/a/", "//a", "/a//b", "/a/b", "/.", "/..", "/a/.", "/a/..", "/a/../b", "/./a", "/...", "/a.b", "/a\x00", "/\x00", "/\x01", "/\xff", "/" + strings.Repeat("x", 54), "/" + strings.Repeat("x", 55), "/a/" + strings.Repeat("x", 55)}
	for _, n := range []int{1022, 1023, 1024, 1025} {
		path := ""
		for len(path) < n {
			path += "/" + strings.Repeat("n", min(54, n-len(path)-1))
		}
		list = append(list, path)
	}
	d := site.Planter{Dice: trial.NewDice(1500)}
	for range 500 {
		path := []byte(d.Path())
		if d.Below(3) == 0 {
			path[d.Below(len(path))] = trial.One(d.Dice, byte('/'), '.', 0, 'a')
		}
		list = append(list, string(path))
	}
	return list
}

// Rule 2 of right lists of items.
func TestWritten(t *testing.T) {
	right := 0
	for _, path := range samples() {
		want := site.Broken([]api.Item{site.DirItem(path)}) != 2
		if parcel.Written(path) != want {
			t.Errorf("%.60q: %v", path, !want)
		}
		if want {
			right++
		}
	}
	if right < 100 || right > len(samples())-20 {
		t.Errorf("%d of %d are written well", right, len(samples()))
	}
}

func TestOrder(t *testing.T) {
	list := []string{"/a", "/a/z", "/a.b", "/b", "/a/a/a", "/a\x01", "/a!", "/A", "/\xff", "/\x80", "/aa", "/a/\xff"}
	for _, path := range samples() {
		if parcel.Written(path) {
			list = append(list, path)
		}
	}
	for _, a := range list {
		if parcel.Order("", a) >= 0 || parcel.Order(a, "") <= 0 {
			t.Errorf("%q does not come behind nothing", a)
		}
		for _, b := range list {
			if got, want := parcel.Order(a, b), site.Order(a, b); got != want {
				t.Fatalf("%q, %q: %d, want %d", a, b, got, want)
			}
		}
	}
}

func TestAbove(t *testing.T) {
	for path, want := range map[string]string{"/a": "", "/a/b": "/a", "/a/b/c.d": "/a/b"} {
		if got := parcel.Above(path); got != want {
			t.Errorf("%q: %q, want %q", path, got, want)
		}
	}
}

// The rules 5 to 8, and of names 9, but for their targets.
func TestFits(t *testing.T) {
	d := site.Lister{Dice: trial.NewDice(1505)}
	fit, unfit := map[int]int{}, map[int]int{}
	for range 5000 {
		items := d.Items()
		for range d.Below(3) {
			items = d.Spoil(items)
		}
		for _, x := range items {
			x.Path = "/x"
			alone := []api.Item{x}
			if x.Kind == api.KName {
				alone = []api.Item{site.FileItem("/f", 0, 0), x}
				alone[1].Target = "/f"
			}
			want := site.Broken(alone) == 0
			if parcel.Fits(x) != want {
				t.Fatalf("%s: %v", site.Short(alone), !want)
			}
			if want {
				fit[x.Kind]++
			} else {
				unfit[x.Kind]++
			}
		}
	}
	for _, kind := range []int{1, 2, 3, 4} {
		if fit[kind] < 100 || unfit[kind] < 20 {
			t.Errorf("the draw is thin: %v, %v", fit, unfit)
		}
	}
}

// Rows of a file of a size, at the edges of both.
func TestSpreadAndFilled(t *testing.T) {
	for _, size := range []int{math.MinInt, -1, 0, 1, 511, 512, 513, 1024, 1025, api.MaxFile, api.MaxFile + 1, math.MaxInt} {
		for _, to := range []int{math.MinInt, 0, 1, 2, 3, 16522, 16523, math.MaxInt} {
			runs := []api.Run{{From: to - 1, To: to}}
			want := size >= 0 && size <= api.MaxFile && to >= 1 && to <= (size+511)/512
			if got := parcel.Spread(size, runs); got != want {
				t.Errorf("size %d, rows %v: %v", size, runs, got)
			}
			if !want {
				continue
			}
			for _, n := range []int{0, 511, 512, 513} {
				if got := parcel.Filled(size, runs, make([]byte, n)); got != (n == 512) {
					t.Errorf("size %d, rows %v, %d bytes: %v", size, runs, n, got)
				}
			}
			for place := range 512 {
				data := make([]byte, 512)
				data[place] = 1
				if got, ahead := parcel.Filled(size, runs, data), 512*(to-1)+place < size; got != ahead {
					t.Errorf("size %d, rows %v, byte %d: %v", size, runs, place, got)
				}
			}
		}
	}
	if !parcel.Spread(0, nil) || !parcel.Filled(0, nil, nil) || parcel.Filled(9, nil, []byte{0}) {
		t.Error("no rows")
	}
}

// What is laid is taken again, and ends as archives and patches do.
func TestBytes(t *testing.T) {
	items := []api.Item{site.DirItem("/d"), site.LinkItem("/l", "t"), site.NameItem("/n", "/f"), site.FileItem("/f", 3000, 1536, site.Run(0, 1), site.Run(3, 5))}
	var w parcel.Writer
	w.Number(0x0102030405060708, parcel.SizeBytes)
	w.Text("text")
	w.Rows([]api.Run{{From: 1, To: 2}})
	w.Data([]byte("data"))
	if want := "\x08\x07\x06\x05\x04\x03\x02\x01\x04\x00text\x01\x00\x00\x00\x01\x00\x00\x00\x02\x00\x00\x00data"; string(w.Bytes) != want {
		t.Errorf("%q", w.Bytes)
	}
	w = parcel.Writer{}
	for _, x := range items {
		w.Item(x)
	}
	w.End(4)
	if !bytes.Equal(site.Resummed(w.Bytes), w.Bytes) || !bytes.Equal(w.Bytes[len(w.Bytes)-parcel.EndBytes:][:5], []byte{0, 4, 0, 0, 0}) {
		t.Errorf("the end is %v", w.Bytes[len(w.Bytes)-parcel.EndBytes:])
	}
	r := parcel.NewReader(w.Bytes)
	var again []api.Item
	for range items {
		again = append(again, r.Item(r.Number(parcel.KindBytes)))
	}
	if !site.Same(again, items) {
		t.Errorf("%s", site.Short(again))
	}
	if kind, count := r.Number(parcel.KindBytes), r.Number(parcel.CountBytes); kind != 0 || count != 4 {
		t.Errorf("%d, %d", kind, count)
	}
}

// Too few bytes: there is less, and no end of waiting.
func TestFewBytes(t *testing.T) {
	r := parcel.NewReader([]byte{1, 2})
	if n := r.Number(4); n != 0x201 {
		t.Errorf("%x", n)
	}
	if n, text, rows, data := r.Number(8), r.Text(), r.Rows(), r.Data([]api.Run{{From: 0, To: 9}}); n != 0 || text != "" || len(rows) != 0 || len(data) != 0 {
		t.Errorf("%d, %q, %v, %v", n, text, rows, data)
	}
	r = parcel.NewReader([]byte{255, 255, 255, 255, 1, 0, 0, 0, 2, 0, 0, 0, 7})
	if rows := r.Rows(); !slices.Equal(rows, []api.Run{{From: 1, To: 2}}) {
		t.Errorf("%v", rows)
	}
	if data := r.Data([]api.Run{{From: 5, To: 2}}); len(data) != 0 {
		t.Errorf("%v", data)
	}
	r.Skip(-3)
	if n := r.Number(1); n != 7 {
		t.Errorf("%d", n)
	}
	r.Skip(9)
	if x := r.Item(api.KFile); x.Path != "" || x.Size != 0 || len(x.Runs) != 0 || len(x.Data) != 0 {
		t.Errorf("%+v", x)
	}
}

// What is taken is memory of its own.
func TestOwnMemory(t *testing.T) {
	var w parcel.Writer
	w.Item(site.FileItem("/f", 3000, 1536, site.Run(0, 1), site.Run(3, 5)))
	r := parcel.NewReader(w.Bytes)
	x := r.Item(r.Number(parcel.KindBytes))
	clear(w.Bytes)
	if !site.Same([]api.Item{x}, []api.Item{site.FileItem("/f", 3000, 1536, site.Run(0, 1), site.Run(3, 5))}) {
		t.Errorf("%s", site.Short([]api.Item{x}))
	}
}
