package handle_test

import (
	"bytes"
	"math"
	"math/big"
	"strings"
	"testing"

	"vellum/api"
	"vellum/site"
	"vellum/trial"
)

func TestP1403(t *testing.T) {
	b := planted(t)
	text := strings.Repeat("0123456789abcdef", 4096) + "tail" // four bytes more than one Read tells
	d := onDisk(t, site.Made(t, api.Super{Sectors: 300, Log: 60, Nodes: 8}))
	d.all(site.Create("/f"), site.Write("/f", 0, text[:65536]), site.Write("/f", 65536, "tail"))
	d.opens("/f", mRead, 1, api.OK)
	d.reads(1, 65536, text[:65536], api.OK)
	d.stands(1, 65536)
	d.reads(1, 65536, "tail", api.OK)
	d.stands(1, 65540)
	d.reads(1, 65536, "", api.OK)
	d.seeks(1, 1, 0, 1, api.OK)
	d.reads(1, 65535, text[1:65536], api.OK)
	b.opens("/a", mRead, 1, api.OK)
	b.reads(1, 0, "", api.OK)
	b.stands(1, 0)
	for _, n := range []int{-1, math.MinInt, -65536} {
		b.reads(1, n, "", api.ErrArg)
	}
	for _, n := range []int{65537, math.MaxInt, 1 << 32} {
		b.reads(1, n, "", api.ErrLong)
	}
	b.stands(1, 0)
	b.reads(1, 4, "hell", api.OK)
	b.reads(1, 1, "o", api.OK)
	b.reads(1, 1, "", api.OK)
	b.stands(1, 5)
	// behind the size nothing is read, and the place stays; what comes there is read from it on
	b.seeks(1, 7, 0, 7, api.OK)
	b.reads(1, 65536, "", api.OK)
	b.stands(1, 7)
	b.all(site.Truncate("/a", 9))
	b.reads(1, 65536, "\x00\x00", api.OK)
	b.seeks(1, api.MaxFile, 0, api.MaxFile, api.OK)
	b.reads(1, 65536, "", api.OK)
	b.stands(1, api.MaxFile)
	b.all(site.Truncate("/a", api.MaxFile))
	b.seeks(1, api.MaxFile-2, 0, api.MaxFile-2, api.OK)
	b.reads(1, 3, "\x00\x00", api.OK)
	b.stands(1, api.MaxFile)
}

func TestP1404(t *testing.T) {
	b := planted(t)
	b.opens("/a", mRead+mWrite, 1, api.OK)
	b.writes(1, "HE", 2, api.OK)
	b.reads(1, 9, "llo", api.OK)
	b.seeks(1, 7, 0, 7, api.OK)
	b.writes(1, "", 0, api.OK)
	b.sized(1, 5)
	b.stands(1, 7)
	b.writes(1, "end", 3, api.OK)
	b.stands(1, 10)
	b.holds("/a", "HEllo\x00\x00end")
	b.writes(1, strings.Repeat("x", 65537), 0, api.ErrLong)
	b.stands(1, 10)
	b.holds("/a", "HEllo\x00\x00end")
	if n, e := b.k.Write(1, nil); n != 0 || e != api.OK {
		t.Errorf("P1404: Write(1, nil): %d, %v", n, e)
	}
	// the end of what a file can hold
	b.seeks(1, api.MaxFile-2, 0, api.MaxFile-2, api.OK)
	b.writes(1, "xyz", 0, api.ErrBig)
	b.stands(1, api.MaxFile-2)
	b.sized(1, 10)
	b.writes(1, "xy", 2, api.OK)
	b.stands(1, api.MaxFile)
	b.sized(1, api.MaxFile)
	b.writes(1, "z", 0, api.ErrBig)
	b.writes(1, "", 0, api.OK)
	b.stands(1, api.MaxFile)
	d := onDisk(t, site.Made(t, api.Super{Sectors: 300, Log: 60, Nodes: 8}))
	text := strings.Repeat("0123456789abcdef", 4096)
	d.opens("/f", mWrite+mCreate, 1, api.OK)
	d.seeks(1, 3, 0, 3, api.OK)
	d.writes(1, text, 65536, api.OK)
	d.stands(1, 65539)
	d.opens("/f", mRead, 2, api.OK)
	d.reads(2, 65536, "\x00\x00\x00"+text[:65533], api.OK)
	d.reads(2, 65536, text[65533:], api.OK)
}

// What is appended comes behind all that is there, whoever has written it; the place goes with it.
func TestP1404Append(t *testing.T) {
	b := planted(t)
	b.opens("/a", mRead+mWrite+mAppend, 1, api.OK)
	b.opens("/a", mWrite+mAppend, 2, api.OK)
	b.writes(2, "1", 1, api.OK)
	b.stands(2, 6)
	b.reads(1, 2, "he", api.OK)
	b.writes(1, "23", 2, api.OK)
	b.stands(1, 8)
	b.stands(2, 6)
	b.all(site.Write("/a", 10, "4"))
	b.writes(2, "5", 1, api.OK)
	b.stands(2, 12)
	b.holds("/a", "hello123\x00\x0045")
	b.seeks(2, 1, 0, 1, api.OK)
	b.writes(2, "", 0, api.OK)
	b.stands(2, 12)
	b.sized(2, 12)
	b.seeks(2, 999, 0, 999, api.OK)
	b.writes(2, "6", 1, api.OK)
	b.stands(2, 13)
	b.all(site.Truncate("/a", 3))
	b.writes(2, "7", 1, api.OK)
	b.stands(2, 4)
	b.holds("/a", "hel7")
	b.stands(1, 8)
	// refused: the place stays where it was, not at the size
	b.seeks(2, 1, 0, 1, api.OK)
	b.writes(2, strings.Repeat("x", 65537), 0, api.ErrLong)
	b.stands(2, 1)
	b.all(site.Truncate("/a", api.MaxFile-1))
	b.writes(2, "89", 0, api.ErrBig)
	b.stands(2, 1)
	b.writes(2, "8", 1, api.OK)
	b.stands(2, api.MaxFile)
	b.seeks(2, 1, 0, 1, api.OK)
	b.writes(2, "9", 0, api.ErrBig)
	b.stands(2, 1)
	b.writes(2, "", 0, api.OK)
	b.stands(2, api.MaxFile)
}

// Where room ends the pieces ahead of it are written, and the place lies behind them; with none of them it is where the Write began.
func TestP1404Room(t *testing.T) {
	for _, mode := range []int{mWrite + mCreate, mWrite + mRead + mCreate, mWrite + mAppend + mCreate, mWrite + mRead + mAppend + mCreate} {
		b := onDisk(t, site.Made(t, api.Super{Sectors: 28, Log: 18, Nodes: 4})) // four data blocks; the root takes one
		b.opens("/a", mode, 1, api.OK)
		b.all(site.Truncate("/a", 7168))
		b.seeks(1, 7168, 0, 7168, api.OK)
		b.writes(1, strings.Repeat("y", 1536), 1024, api.ErrNoSpace) // two blocks and the single one lie ahead of 8192
		b.stands(1, 8192)
		b.stats(1, api.Stat{Node: 2, Kind: api.KFile, Links: 1, Size: 8192, Owned: 3}, api.OK)
		b.room(0, 2)
		b.seeks(1, 8200, 0, 8200, api.OK)
		b.writes(1, "none", 0, api.ErrNoSpace)
		if b.stands(1, map[bool]int{true: 8192, false: 8200}[mode&mAppend != 0]); mode&mAppend == 0 {
			b.seeks(1, 8000, 0, 8000, api.OK)
			b.writes(1, strings.Repeat("z", 300), 192, api.ErrNoSpace)
			b.stands(1, 8192)
		}
		b.sized(1, 8192)
	}
}

// What is handed in is neither changed nor kept, and what is answered is new memory, its spare room too.
func TestP2(t *testing.T) {
	for _, mode := range []int{mRead + mWrite, mRead + mWrite + mAppend} {
		b := planted(t)
		b.opens("/a", mode+mEmpty, 1, api.OK)
		data := append(make([]byte, 0, 64), "first"...)
		spare := data[:cap(data)]
		copy(spare[5:], "beyond")
		was := bytes.Clone(spare)
		if n, e := b.k.Write(1, data); n != 5 || e != api.OK || !bytes.Equal(spare, was) {
			t.Errorf("P2: Write: %d, %v, %q", n, e, spare)
		}
		clear(spare)
		b.holds("/a", "first")
		b.seeks(1, 0, 0, 0, api.OK)
		got, _ := b.k.Read(1, 9)
		for i := range got[:cap(got)] {
			got[:cap(got)][i] = '#'
		}
		b.holds("/a", "first")
		b.seeks(1, 0, 0, 0, api.OK)
		b.reads(1, 9, "first", api.OK)
	}
}

// Every sum, held against one of big numbers.
func TestP1405(t *testing.T) {
	offs := []int{0, 1, -1, 4, 5, 6, -4, -5, -6, 600, -600, api.MaxFile, -api.MaxFile, api.MaxFile + 1, -api.MaxFile - 1, api.MaxFile - 5, api.MaxFile - 4, 1 << 31, -1 << 31, 1 << 32, 1<<32 + 3, -1<<32 + 3, math.MaxInt, math.MaxInt - 5, math.MinInt, math.MinInt + 5, math.MinInt + api.MaxFile}
	for _, mode := range []int{mRead, mWrite, mRead + mWrite, mWrite + mAppend, mRead + mWrite + mAppend} {
		for _, size := range []int{0, 5, 600, api.MaxFile} {
			b := planted(t)
			b.all(site.Truncate("/a", size))
			b.opens("/a", mode, 1, api.OK)
			was := b.d.Counts()
			for _, place := range []int{0, 5, 601, api.MaxFile - 5, api.MaxFile} {
				for whence, base := range []int{0, place, size} {
					for _, off := range offs {
						b.seeks(1, place, 0, place, api.OK)
						sum := new(big.Int).Add(big.NewInt(int64(base)), big.NewInt(int64(off)))
						want, e, behind := int(sum.Int64()), api.OK, 0
						switch {
						case sum.Sign() < 0:
							want, e, behind = 0, api.ErrArg, place
						case sum.Cmp(big.NewInt(8459264)) > 0:
							want, e, behind = 0, api.ErrBig, place
						default:
							behind = want
						}
						b.seeks(1, off, whence, want, e)
						b.stands(1, behind)
					}
				}
			}
			if now := b.d.Counts(); now.Writes != was.Writes || now.Flushes != was.Flushes {
				t.Fatalf("P1405: something is written: %+v, before %+v", now, was)
			}
			b.sized(1, size)
		}
	}
	b := planted(t)
	b.opens("/a", mRead, 1, api.OK)
	b.seeks(1, 3, 0, 3, api.OK)
	for _, whence := range []int{-1, 3, 4, 256, 257, 1 << 32, math.MaxInt, math.MinInt} {
		for _, off := range []int{0, -1, math.MaxInt, math.MinInt} {
			b.seeks(1, off, whence, 0, api.ErrArg)
		}
	}
	b.stands(1, 3)
}

// The size from which a Seek counts is the one of now.
func TestP1405Size(t *testing.T) {
	b := planted(t)
	b.opens("/a", mRead, 1, api.OK)
	b.seeks(1, 0, 2, 5, api.OK)
	b.all(site.Write("/a", 9, "x"))
	b.seeks(1, -1, 2, 9, api.OK)
	b.reads(1, 9, "x", api.OK)
	b.all(site.Truncate("/a", 2))
	b.seeks(1, 1, 2, 3, api.OK)
	b.seeks(1, -3, 2, 0, api.ErrArg)
	b.all(site.Unlink("/a"))
	b.seeks(1, -2, 2, 0, api.OK)
}

func TestP1406(t *testing.T) {
	b := planted(t)
	for h, mode := range []int{mRead, mWrite, mRead + mWrite, mWrite + mAppend, mRead + mWrite + mAppend} {
		b.opens("/a", mode, h+1, api.OK)
	}
	all := func(want api.Stat) {
		t.Helper()
		for h := range 5 {
			b.stats(h+1, want, api.OK)
		}
	}
	all(api.Stat{Node: 2, Kind: api.KFile, Links: 1, Size: 5, Owned: 1})
	b.all(site.Write("/l", 6000, "x"), site.Link("/a", "/d/a"))
	all(api.Stat{Node: 2, Kind: api.KFile, Links: 2, Size: 6001, Owned: 3})
	b.all(site.Unlink("/a"))
	all(api.Stat{Node: 2, Kind: api.KFile, Links: 1, Size: 6001, Owned: 3})
	b.all(site.Unlink("/d/a"))
	all(api.Stat{Node: 2, Kind: api.KFile, Links: 0, Size: 6001, Owned: 3})
	b.all(site.Create("/a"), site.Write("/a", 0, "another"))
	all(api.Stat{Node: 2, Kind: api.KFile, Links: 0, Size: 6001, Owned: 3})
	b.stands(1, 0)
	b.stats(6, api.Stat{}, api.ErrHandle)
}

// No number but an open handle's is one, ahead of all that is wrong besides.
func TestErrHandle(t *testing.T) {
	b := planted(t)
	b.opens("/a", mRead, 1, api.OK)
	b.opens("/a", mRead, 2, api.OK)
	b.opens("/a", mWrite, 3, api.OK)
	b.closes(2, api.OK)
	for _, h := range []int{0, -1, 2, 4, 15, 16, 17, 18, 257, 1<<32 + 1, math.MaxInt, math.MinInt, math.MinInt + 1} {
		for _, a := range answersOf(b.k, h) {
			trial.Is(t, a.what, a.e, api.ErrHandle)
		}
		b.reads(h, -1, "", api.ErrHandle)
		b.reads(h, 65537, "", api.ErrHandle)
		b.writes(h, strings.Repeat("x", 65537), 0, api.ErrHandle)
		b.seeks(h, -1, 9, 0, api.ErrHandle)
	}
	b.stands(1, 0)
	b.stands(3, 0)
	b.holds("/a", "hello")
}
