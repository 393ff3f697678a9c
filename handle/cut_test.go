package handle_test

import (
	"strings"
	"testing"

	"vellum/api"
	"vellum/site"
	"vellum/trial"
)

// durable is a bench on which nothing is pending.
func durable(t *testing.T) *bench {
	t.Helper()
	b := planted(t)
	trial.Is(t, "Checkpoint", b.f.Checkpoint(), api.OK)
	return b
}

// writesOf counts the writes and flushes of something that is done.
func writesOf(b *bench, do func()) int {
	was := b.d.Counts()
	do()
	now := b.d.Counts()
	return now.Writes + now.Flushes - was.Writes - was.Flushes
}

// An Open that makes the file and can't go on answers ErrDead, and the file stays; it answers so also where the very last write of the Create is let through, as the Hold behind it is refused.
func TestP1402CutCreate(t *testing.T) {
	first := durable(t)
	for _, mode := range []int{mRead + mCreate, mRead + mCreate + mFresh, mWrite + mCreate + mFresh + mEmpty} {
		dry := first.copied()
		total := writesOf(dry, func() { dry.all(site.Create("/d/new")) })
		for fuse := range total + 2 {
			b := first.copied()
			b.d.Fuse(fuse)
			if fuse <= total {
				b.opens("/d/new", mode, 0, api.ErrDead)
			} else {
				b.opens("/d/new", mode, 1, api.OK)
			}
			b.d.Crash([]api.Pick{trial.Keep()})
			b = onDisk(t, b.d)
			b.there("/d/new", fuse >= total)
			b.closes(1, api.ErrHandle)
			b.held()
		}
	}
}

// An Open that empties the file and is cut off there answers ErrDead; it has done nothing by halves.
func TestP1402CutEmpty(t *testing.T) {
	first := durable(t)
	dry := first.copied()
	total := writesOf(dry, func() { dry.all(site.Truncate("/a", 0)) })
	if total < 2 {
		t.Fatalf("%d writes are few", total)
	}
	for fuse := range total + 1 {
		b := first.copied()
		b.d.Fuse(fuse)
		if fuse < total {
			b.opens("/a", mWrite+mEmpty, 0, api.ErrDead)
		} else {
			b.opens("/a", mWrite+mEmpty, 1, api.OK)
		}
		b.opens("/a", mRead, 0, api.ErrDead)
		b.d.Crash([]api.Pick{trial.Keep()})
		b = onDisk(t, b.d)
		if fuse < total {
			b.holds("/a", "hello")
		} else {
			b.holds("/a", "")
		}
	}
}

// A Write that is cut off answers 0 and ErrDead, though pieces of it may last; one whose last write is let through answers what it wrote.
func TestP1404Cut(t *testing.T) {
	first := durable(t)
	text := strings.Repeat("0123456789", 900) // three pieces
	for _, mode := range []int{mWrite, mWrite + mAppend} {
		dry := first.copied()
		dry.opens("/d/b", mode, 1, api.OK)
		total := writesOf(dry, func() { dry.writes(1, text, 9000, api.OK) })
		for fuse := range total + 1 {
			b := first.copied()
			b.opens("/d/b", mode, 1, api.OK)
			b.d.Fuse(fuse)
			if fuse < total {
				b.writes(1, text, 0, api.ErrDead)
			} else {
				b.writes(1, text, 9000, api.OK)
			}
			b.writes(1, text, 0, api.ErrDead)
			b.d.Crash([]api.Pick{trial.Keep()})
			b = onDisk(t, b.d)
			b.opens("/d/b", mRead, 1, api.OK)
			s, _ := b.k.Stat(1)
			if s.Size != 9000 && s.Size%4096 != 0 || fuse == total && s.Size != 9000 {
				t.Fatalf("P1404: cut behind %d of %d writes: the size is %d", fuse, total, s.Size)
			}
			b.reads(1, 9000, text[:s.Size], api.OK)
		}
	}
}

// A Close whose file goes with it, and that is cut off there, answers ErrDead; behind the cut the file is gone.
func TestP1407Cut(t *testing.T) {
	first := durable(t)
	left := first.left(1, 1)
	ready := func() *bench {
		b := first.copied()
		b.opens("/a", mRead, 1, api.OK)
		b.all(site.Unlink("/a"))
		trial.Is(t, "Checkpoint", b.f.Checkpoint(), api.OK)
		return b
	}
	dry := ready()
	total := writesOf(dry, func() { dry.closes(1, api.OK) })
	if total < 2 {
		t.Fatalf("%d writes are few", total)
	}
	for fuse := range total + 1 {
		for _, picks := range trial.Picks() {
			b := ready()
			b.d.Fuse(fuse)
			if fuse < total {
				b.closes(1, api.ErrDead)
			} else {
				b.closes(1, api.OK)
			}
			b.closes(1, api.ErrDead)
			b.d.Crash(picks)
			b = onDisk(t, b.d)
			b.there("/a", false)
			first.f = b.f
			left()
		}
	}
}

// Without a cut nothing waits for the disk: a desk makes no flush as long as the log has room.
func TestNoFlush(t *testing.T) {
	b := onDisk(t, site.Made(t, api.Super{Sectors: 500, Log: 256, Nodes: 8}))
	was := b.d.Counts().Flushes
	b.opens("/a", mRead+mWrite+mCreate, 1, api.OK)
	b.writes(1, strings.Repeat("x", 9000), 9000, api.OK)
	b.opens("/a", mWrite+mAppend+mEmpty, 2, api.OK)
	b.writes(2, "y", 1, api.OK)
	b.seeks(1, 0, 2, 1, api.OK)
	b.all(site.Unlink("/a"))
	b.closes(1, api.OK)
	b.closes(2, api.OK)
	if now := b.d.Counts().Flushes; now != was {
		t.Errorf("%d flushes", now-was)
	}
}
