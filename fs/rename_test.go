package fs_test

import (
	"strconv"
	"testing"

	"vellum/api"
)

func TestP1313Refused(t *testing.T) {
	p := planted(t)
	p.all(mkdir("/d/in"), mkdir("/d/in/deep"), create("/d/in/f"), mkdir("/full"), create("/full/f"))
	p.answers([]answer{
		{rename("/none", "/x"), api.ErrNotFound}, {rename("/none", "/none"), api.ErrNotFound}, {rename("/none/x", "/self/x"), api.ErrNotFound}, {rename("/a/x", "/x"), api.ErrNotDir}, {rename("/self/x", "/none/x"), api.ErrLoop},
		{rename("/a", "/none/x"), api.ErrNotFound}, {rename("/a", "/d/b/x"), api.ErrNotDir}, {rename("/a", "/self/x"), api.ErrLoop}, {rename("/a", "/a/x"), api.ErrNotDir},
		{rename("/d", "/d/x"), api.ErrInside}, {rename("/d", "/up/x"), api.ErrInside}, {rename("/d", "/d/in/deep/x"), api.ErrInside}, {rename("/d", "/d/b"), api.ErrInside}, {rename("/d", "/d/in"), api.ErrInside}, {rename("/d/in", "/d/in/deep"), api.ErrInside}, {rename("/d", "/d/none/x"), api.ErrNotFound},
		{rename("/d", "/a"), api.ErrNotDir}, {rename("/e", "/l"), api.ErrNotDir}, {rename("/e", "/gone"), api.ErrNotDir}, {rename("/e", "/up"), api.ErrNotDir},
		{rename("/a", "/e"), api.ErrIsDir}, {rename("/a", "/d"), api.ErrIsDir}, {rename("/l", "/e"), api.ErrIsDir}, {rename("/up", "/d"), api.ErrIsDir}, {rename("/d/b", "/d"), api.ErrIsDir},
		{rename("/e", "/d"), api.ErrNotEmpty}, {rename("/e", "/full"), api.ErrNotEmpty}, {rename("/d/in", "/d"), api.ErrNotEmpty}, {rename("/d/in/deep", "/d"), api.ErrNotEmpty}, {rename("/d", "/full"), api.ErrNotEmpty},
	})
	p.tree()
}

// One node under two names, or one name said twice: nothing changes.
func TestP1313Same(t *testing.T) {
	p := planted(t)
	p.all(link("/a", "/d/a"))
	is(t, "Checkpoint", p.f.Checkpoint(), api.OK)
	was := p.d.Counts()
	p.all(rename("/a", "/a"), rename("/a", "/d/a"), rename("/up/a", "/a/."), rename("/d", "/d"), rename("/d/", "/d/."), rename("/l", "/l"), rename("/e", "/d/../e"))
	if now := p.d.Counts(); now.Writes != was.Writes {
		t.Errorf("P1313: %d writes", now.Writes-was.Writes)
	}
	p.tree()
}

func TestP1313Moves(t *testing.T) {
	p := planted(t)
	p.all(rename("/a", "/n"), rename("/n", "/e/a"), rename("/e/a", "/e/b"), rename("/l", "/up/l"), rename("/d/l", "/e/l"), rename("/up", "/up2"), rename("/up2/b", "/up2/c"))
	p.stats("/e", api.Stat{Node: 9, Kind: api.KDir, Links: 2, Size: 512, Owned: 1})
	p.stats("/e/b", api.Stat{Node: 2, Kind: api.KFile, Links: 1, Size: 4, Owned: 1})
	p.all(rename("/e", "/d/e"))
	p.stats("/", api.Stat{Node: 1, Kind: api.KDir, Links: 3, Size: 512, Owned: 1})
	p.stats("/d", api.Stat{Node: 3, Kind: api.KDir, Links: 3, Size: 512, Owned: 1})
	p.stats("/d/e/..", api.Stat{Node: 3, Kind: api.KDir, Links: 3, Size: 512, Owned: 1})
	p.all(rename("/d/e", "/d/f"), rename("/d/f", "/f"), mkdir("/f/g"), rename("/f/g", "/d/g"), rename("/f", "/d/g/f"), rename("/d/g/f/l", "/l"))
	p.stats("/d/g/f/..", api.Stat{Node: 10, Kind: api.KDir, Links: 3, Size: 512, Owned: 1})
	p.tree()
	p.again()
}

func TestP1313Replaces(t *testing.T) {
	p := planted(t)
	p.all(create("/f"), write("/f", 0, "f"), link("/f", "/g"))
	p.all(rename("/a", "/f")) // /g is left of it
	p.stats("/g", api.Stat{Node: 10, Kind: api.KFile, Links: 1, Size: 1, Owned: 1})
	p.stats("/f", api.Stat{Node: 2, Kind: api.KFile, Links: 1, Size: 4, Owned: 1})
	p.all(rename("/f", "/g")) // nothing is left of it
	p.all(rename("/g", "/gone"), rename("/l", "/self"), rename("/self", "/gone"), rename("/up", "/gone"))
	p.stats("/gone", api.Stat{Node: 6, Kind: api.KLink, Links: 1, Size: 1, Owned: 1})
	p.all(mkdir("/e/x"), mkdir("/d/y"))
	p.all(rename("/e/x", "/d/y")) // from another parent, onto an empty one
	p.stats("/e", api.Stat{Node: 9, Kind: api.KDir, Links: 2})
	p.stats("/d", api.Stat{Node: 3, Kind: api.KDir, Links: 3, Size: 512, Owned: 1})
	p.stats("/d/y/..", api.Stat{Node: 3, Kind: api.KDir, Links: 3, Size: 512, Owned: 1})
	p.all(rename("/d", "/e")) // in one parent
	p.stats("/", api.Stat{Node: 1, Kind: api.KDir, Links: 3, Size: 512, Owned: 1})
	p.all(rename("/e/y", "/e/b2"), mkdir("/h"), rename("/e/b2", "/h"))
	p.tree()
	p.again()
}

// What is replaced while it is held lives on without a name.
func TestP1313Held(t *testing.T) {
	p := planted(t)
	b := p.hold("/d/b", api.OK)
	p.all(write("/d/b", 0, "held"), rename("/a", "/d/b"), by(b, read("", 0, 9)), by(b, write("", 4, " on")))
	if r := p.does(by(b, stat("")), api.OK); r.Stat != (api.Stat{Node: 4, Kind: api.KFile, Size: 7, Owned: 1}) {
		t.Errorf("P1313: %+v", r.Stat)
	}
	p.tree()
	p.release(b, api.OK)
	p.all(create("/n"))
	p.stats("/n", api.Stat{Node: 4, Kind: api.KFile, Links: 1})
	p.tree()
}

// The old name goes first: its slot, or its block, is there for the new one.
func TestP1313Room(t *testing.T) {
	p := filled(t, 0, 1)
	p.all(mkdir("/d"))
	p.does(rename("/fill", "/d/x"), api.ErrNoSpace)
	p.does(rename("/fill", "/x"), api.OK)
	p.tree()
	p = filled(t, 1, 1)
	p.all(mkdir("/d"), rename("/f0", "/d/f"))
	p.does(rename("/f1", "/d/g"), api.OK)
	p.all(rename("/d/f", "/d/h"), rename("/d/g", "/f"), rename("/d/h", "/g"))
	p.tree()
	p = filled(t, 2, 2) // the one entry of a directory comes into another one, whose blocks are full
	p.all(mkdir("/d"), mkdir("/e"), link("/fill", "/d/one"))
	for i := range 8 {
		p.all(link("/fill", "/e/"+strconv.Itoa(i)))
	}
	p.does(link("/fill", "/e/8"), api.ErrNoSpace)
	p.all(rename("/d/one", "/e/one"), rename("/e/one", "/d/one"))
	p.does(rename("/f0", "/e/f0"), api.ErrNoSpace)
	p.all(rename("/f0", "/e/3"), rename("/e/3", "/e/4"))
	p.tree()
}
