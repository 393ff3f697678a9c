package wal

import (
	"testing"

	"vellum/api"
	"vellum/disk"
)

// near is a log whose tail and head are brought near the end of the positions: no test can append so much.
func near(t *testing.T, tail, head int) (*disk.Disk, *Log) {
	t.Helper()
	d, _ := disk.New(20)
	Format(d, 0, 18)
	l, _, _ := Open(d, 0, 18)
	if e := l.Start(); e != api.OK {
		t.Fatalf("Start: %v", e)
	}
	l.tail, l.head = tail-1, tail
	if e := l.Trim(); e != api.OK { // lays the anchor
		t.Fatalf("Trim: %v", e)
	}
	l.head = head
	return d, l
}

func TestP406Worn(t *testing.T) {
	for _, c := range []struct {
		tail, head, size int
		e                api.Errno
	}{
		{api.MaxPos - 3, api.MaxPos - 2, 2 * 492, api.OK},
		{api.MaxPos - 3, api.MaxPos - 2, 2*492 + 1, api.ErrWorn},
		{api.MaxPos - 3, api.MaxPos - 2, 0, api.ErrLength},
		{api.MaxPos - 3, api.MaxPos - 2, api.MaxRecord + 1, api.ErrLong},
		{api.MaxPos - 18, api.MaxPos - 17, api.MaxRecord, api.OK},
		{api.MaxPos - 17, api.MaxPos - 16, api.MaxRecord, api.ErrWorn},
		{api.MaxPos - 17, api.MaxPos - 1, 492, api.OK},
		{api.MaxPos - 17, api.MaxPos, 1, api.ErrWorn},
		{api.MaxPos - 18, api.MaxPos, 1, api.ErrWorn},           // no room either
		{api.MaxPos - 19, api.MaxPos - 1, 492, api.ErrFull},     // just not worn
		{api.MaxPos - 19, api.MaxPos - 1, 2 * 492, api.ErrWorn}, // both
	} {
		d, l := near(t, c.tail, c.head)
		was := d.Counts().Writes
		if e := l.Append(make([]byte, c.size)); e != c.e {
			t.Errorf("Append of %d at %d: %v, want %v", c.size, c.head-api.MaxPos, e, c.e)
		}
		if c.e != api.OK && (l.head != c.head || d.Counts().Writes != was) {
			t.Errorf("Append of %d at %d was refused and changed something", c.size, c.head-api.MaxPos)
		}
	}
}

// The very last position can be used, let go, and found again.
func TestP406LastPosition(t *testing.T) {
	d, l := near(t, api.MaxPos-1, api.MaxPos-1)
	if e := l.Append([]byte("last")); e != api.OK {
		t.Fatalf("Append: %v", e)
	}
	if e := l.Trim(); e != api.OK {
		t.Fatalf("Trim: %v", e)
	}
	if e := l.Append([]byte("behind it")); e != api.ErrWorn {
		t.Errorf("Append: %v", e)
	}
	d.Crash(nil)
	l, records, e := Open(d, 0, 18)
	if e != api.OK || len(records) != 0 {
		t.Fatalf("Open: %d records, %v", len(records), e)
	}
	if epoch, tail, head, e := l.Marks(); epoch != 2 || tail != api.MaxPos || head != api.MaxPos || e != api.OK {
		t.Errorf("Marks %d, %d, %d, %v", epoch, tail, head, e)
	}
	if e := l.Start(); e != api.OK {
		t.Fatalf("Start: %v", e)
	}
	if e := l.Append([]byte("in the next epoch")); e != api.OK {
		t.Errorf("Append: %v", e)
	}
}
