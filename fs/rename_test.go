package fs_test

import (
	"strconv"
	"testing"

	"vellum/api"
	"vellum/site"
)

func TestP1313Refused(t *testing.T) {
	p := planted(t)
	p.all(site.Mkdir("/d/in"), site.Mkdir("/d/in/deep"), site.Create("/d/in/f"), site.Mkdir("/full"), site.Create("/full/f"))
	p.answers([]answer{
		{site.Rename("/none", "/x"), api.ErrNotFound}, {site.Rename("/none", "/none"), api.ErrNotFound}, {site.Rename("/none/x", "/self/x"), api.ErrNotFound}, {site.Rename("/a/x", "/x"), api.ErrNotDir}, {site.Rename("/self/x", "/none/x"), api.ErrLoop},
		{site.Rename("/a", "/none/x"), api.ErrNotFound}, {site.Rename("/a", "/d/b/x"), api.ErrNotDir}, {site.Rename("/a", "/self/x"), api.ErrLoop}, {site.Rename("/a", "/a/x"), api.ErrNotDir},
		{site.Rename("/d", "/d/x"), api.ErrInside}, {site.Rename("/d", "/up/x"), api.ErrInside}, {site.Rename("/d", "/d/in/deep/x"), api.ErrInside}, {site.Rename("/d", "/d/b"), api.ErrInside}, {site.Rename("/d", "/d/in"), api.ErrInside}, {site.Rename("/d/in", "/d/in/deep"), api.ErrInside}, {site.Rename("/d", "/d/none/x"), api.ErrNotFound},
		{site.Rename("/d", "/a"), api.ErrNotDir}, {site.Rename("/e", "/l"), api.ErrNotDir}, {site.Rename("/e", "/gone"), api.ErrNotDir}, {site.Rename("/e", "/up"), api.ErrNotDir},
		{site.Rename("/a", "/e"), api.ErrIsDir}, {site.Rename("/a", "/d"), api.ErrIsDir}, {site.Rename("/l", "/e"), api.ErrIsDir}, {site.Rename("/up", "/d"), api.ErrIsDir}, {site.Rename("/d/b", "/d"), api.ErrIsDir},
		{site.Rename("/e", "/d"), api.ErrNotEmpty}, {site.Rename("/e", "/full"), api.ErrNotEmpty}, {site.Rename("/d/in", "/d"), api.ErrNotEmpty}, {site.Rename("/d/in/deep", "/d"), api.ErrNotEmpty}, {site.Rename("/d", "/full"), api.ErrNotEmpty},
	})
	p.tree()
}

// One node under two names, or one name said twice: nothing changes.
func TestP1313Same(t *testing.T) {
	p := planted(t)
	p.all(site.Link("/a", "/d/a"))
	is(t, "Checkpoint", p.f.Checkpoint(), api.OK)
	was := p.d.Counts()
	p.all(site.Rename("/a", "/a"), site.Rename("/a", "/d/a"), site.Rename("/up/a", "/a/."), site.Rename("/d", "/d"), site.Rename("/d/", "/d/."), site.Rename("/l", "/l"), site.Rename("/e", "/d/../e"))
	if now := p.d.Counts(); now.Writes != was.Writes {
		t.Errorf("P1313: %d writes", now.Writes-was.Writes)
	}
	p.tree()
}

func TestP1313Moves(t *testing.T) {
	p := planted(t)
	p.all(site.Rename("/a", "/n"), site.Rename("/n", "/e/a"), site.Rename("/e/a", "/e/b"), site.Rename("/l", "/up/l"), site.Rename("/d/l", "/e/l"), site.Rename("/up", "/up2"), site.Rename("/up2/b", "/up2/c"))
	p.stats("/e", api.Stat{Node: 9, Kind: api.KDir, Links: 2, Size: 512, Owned: 1})
	p.stats("/e/b", api.Stat{Node: 2, Kind: api.KFile, Links: 1, Size: 4, Owned: 1})
	p.all(site.Rename("/e", "/d/e"))
	p.stats("/", api.Stat{Node: 1, Kind: api.KDir, Links: 3, Size: 512, Owned: 1})
	p.stats("/d", api.Stat{Node: 3, Kind: api.KDir, Links: 3, Size: 512, Owned: 1})
	p.stats("/d/e/..", api.Stat{Node: 3, Kind: api.KDir, Links: 3, Size: 512, Owned: 1})
	p.all(site.Rename("/d/e", "/d/f"), site.Rename("/d/f", "/f"), site.Mkdir("/f/g"), site.Rename("/f/g", "/d/g"), site.Rename("/f", "/d/g/f"), site.Rename("/d/g/f/l", "/l"))
	p.stats("/d/g/f/..", api.Stat{Node: 10, Kind: api.KDir, Links: 3, Size: 512, Owned: 1})
	p.tree()
	p.again()
}

func TestP1313Replaces(t *testing.T) {
	p := planted(t)
	p.all(site.Create("/f"), site.Write("/f", 0, "f"), site.Link("/f", "/g"))
	p.all(site.Rename("/a", "/f")) // /g is left of it
	p.stats("/g", api.Stat{Node: 10, Kind: api.KFile, Links: 1, Size: 1, Owned: 1})
	p.stats("/f", api.Stat{Node: 2, Kind: api.KFile, Links: 1, Size: 4, Owned: 1})
	p.all(site.Rename("/f", "/g")) // nothing is left of it
	p.all(site.Rename("/g", "/gone"), site.Rename("/l", "/self"), site.Rename("/self", "/gone"), site.Rename("/up", "/gone"))
	p.stats("/gone", api.Stat{Node: 6, Kind: api.KLink, Links: 1, Size: 1, Owned: 1})
	p.all(site.Mkdir("/e/x"), site.Mkdir("/d/y"))
	p.all(site.Rename("/e/x", "/d/y")) // from another parent, onto an empty one
	p.stats("/e", api.Stat{Node: 9, Kind: api.KDir, Links: 2})
	p.stats("/d", api.Stat{Node: 3, Kind: api.KDir, Links: 3, Size: 512, Owned: 1})
	p.stats("/d/y/..", api.Stat{Node: 3, Kind: api.KDir, Links: 3, Size: 512, Owned: 1})
	p.all(site.Rename("/d", "/e")) // in one parent
	p.stats("/", api.Stat{Node: 1, Kind: api.KDir, Links: 3, Size: 512, Owned: 1})
	p.all(site.Rename("/e/y", "/e/b2"), site.Mkdir("/h"), site.Rename("/e/b2", "/h"))
	p.tree()
	p.again()
}

// What is replaced while it is held lives on without a name.
func TestP1313Held(t *testing.T) {
	p := planted(t)
	b := p.hold("/d/b", api.OK)
	p.all(site.Write("/d/b", 0, "held"), site.Rename("/a", "/d/b"), by(b, site.Read("", 0, 9)), by(b, site.Write("", 4, " on")))
	if r := p.does(by(b, site.Stat("")), api.OK); r.Stat != (api.Stat{Node: 4, Kind: api.KFile, Size: 7, Owned: 1}) {
		t.Errorf("P1313: %+v", r.Stat)
	}
	p.tree()
	p.release(b, api.OK)
	p.all(site.Create("/n"))
	p.stats("/n", api.Stat{Node: 4, Kind: api.KFile, Links: 1})
	p.tree()
}

// The old name goes first: its slot, or its block, is there for the new one.
func TestP1313Room(t *testing.T) {
	p := filled(t, 0, 1)
	p.all(site.Mkdir("/d"))
	p.does(site.Rename("/fill", "/d/x"), api.ErrNoSpace)
	p.does(site.Rename("/fill", "/x"), api.OK)
	p.tree()
	p = filled(t, 1, 1)
	p.all(site.Mkdir("/d"), site.Rename("/f0", "/d/f"))
	p.does(site.Rename("/f1", "/d/g"), api.OK)
	p.all(site.Rename("/d/f", "/d/h"), site.Rename("/d/g", "/f"), site.Rename("/d/h", "/g"))
	p.tree()
	p = filled(t, 2, 2) // the one entry of a directory comes into another one, whose blocks are full
	p.all(site.Mkdir("/d"), site.Mkdir("/e"), site.Link("/fill", "/d/one"))
	for i := range 8 {
		p.all(site.Link("/fill", "/e/"+strconv.Itoa(i)))
	}
	p.does(site.Link("/fill", "/e/8"), api.ErrNoSpace)
	p.all(site.Rename("/d/one", "/e/one"), site.Rename("/e/one", "/d/one"))
	p.does(site.Rename("/f0", "/e/f0"), api.ErrNoSpace)
	p.all(site.Rename("/f0", "/e/3"), site.Rename("/e/3", "/e/4"))
	p.tree()
}
