package store

import (
	"bytes"
	"reflect"
	"testing"
	"unsafe"

	"vellum/api"
	"vellum/disk"
)

// worn is a store whose log's tail and head are brought near the end of the positions: no test can commit so much, and the log has no call for it.
func worn(t *testing.T, tail, head int) (*disk.Disk, *Store) {
	t.Helper()
	d, _ := disk.New(64)
	if e := Format(d, api.Super{Sectors: 64, Log: 18, Nodes: 8}); e != api.OK {
		t.Fatalf("Format: %v", e)
	}
	s, e := Open(d)
	if e != api.OK {
		t.Fatalf("Open: %v", e)
	}
	set := func(field string, value int) {
		f := reflect.ValueOf(s.log).Elem().FieldByName(field)
		*(*int)(unsafe.Pointer(f.UnsafeAddr())) = value
	}
	set("tail", tail)
	set("head", head)
	if _, tailNow, headNow, e := s.log.Marks(); tailNow != tail || headNow != head || e != api.OK {
		t.Fatalf("Marks: %d, %d, %v", tailNow, headNow, e)
	}
	return d, s
}

func filled(x byte) []byte { return bytes.Repeat([]byte{x}, 512) }

func wantBlock(t *testing.T, x *Tx, block int, want byte) {
	t.Helper()
	if data, e := x.Get(block); e != api.OK || !bytes.Equal(data, filled(want)) {
		t.Errorf("Get(%d): %v, want %q all over", block, e, want)
	}
}

// A commit that is refused for the positions' end: the transaction stays open, the committed state is as it was; a checkpoint is made just if the room was short.
func TestP509Worn(t *testing.T) {
	const end = api.MaxPos
	for _, c := range []struct {
		tail, head int
		want       api.Errno
		checkpoint bool
	}{
		{end - 4, end - 4, api.OK, false}, // two records of two sectors
		{end - 3, end - 3, api.ErrWorn, false},
		{end - 18, end - 3, api.ErrWorn, true}, // room 3, then 1
		{end - 19, end - 4, api.OK, true},
	} {
		d, s := worn(t, c.tail, c.head)
		x, _ := s.Begin()
		x.Put(1, filled('a'))
		if e := x.Commit(); e != api.OK {
			t.Fatalf("Commit: %v", e)
		}
		x, _ = s.Begin()
		x.Put(1, filled('b'))
		was := d.Counts()
		if e := x.Commit(); e != c.want {
			t.Fatalf("%+v: Commit: %v", c, e)
		}
		if checkpoint := d.Counts().Flushes > was.Flushes; checkpoint != c.checkpoint {
			t.Errorf("%+v: a checkpoint: %v", c, checkpoint)
		}
		if c.want == api.OK {
			continue
		}
		if e := x.State(); e != api.OK {
			t.Errorf("%+v: State: %v", c, e)
		}
		wantBlock(t, x, 1, 'b')
		if _, e := s.Begin(); e != api.ErrBusy {
			t.Errorf("%+v: Begin: %v", c, e)
		}
		if e := x.Commit(); e != api.ErrWorn {
			t.Errorf("%+v: Commit again: %v", c, e)
		}
		if e := x.Abort(); e != api.OK {
			t.Errorf("%+v: Abort: %v", c, e)
		}
		x, _ = s.Begin()
		wantBlock(t, x, 1, 'a')
		if e := x.Abort(); e != api.OK {
			t.Errorf("%+v: Abort: %v", c, e)
		}
		if e := s.Checkpoint(); e != api.OK {
			t.Errorf("%+v: Checkpoint: %v", c, e)
		}
		s, e := Open(d) // a new epoch has all its positions
		if e != api.OK {
			t.Fatalf("%+v: Open: %v", c, e)
		}
		x, _ = s.Begin()
		wantBlock(t, x, 1, 'a')
		x.Put(1, filled('c'))
		if e := x.Commit(); e != api.OK {
			t.Errorf("%+v: Commit in a new epoch: %v", c, e)
		}
	}
}

// What is ended is emptied: an ended transaction that somebody keeps holds no blocks.
func TestEndedHoldsNothing(t *testing.T) {
	_, s := worn(t, 0, 0)
	for _, end := range []func(x *Tx) api.Errno{(*Tx).Commit, (*Tx).Abort} {
		x, _ := s.Begin()
		for b := range 5 {
			x.Put(b, filled(byte(len(s.overlay)+1)))
		}
		if e := end(x); e != api.OK || len(x.puts) != 0 {
			t.Errorf("%v, and %d blocks are held", e, len(x.puts))
		}
	}
	if len(s.overlay) != 5 {
		t.Errorf("%d blocks are not home, want 5", len(s.overlay))
	}
	if e := s.Checkpoint(); e != api.OK || len(s.overlay) != 0 {
		t.Errorf("Checkpoint: %v, and %d blocks are held", e, len(s.overlay))
	}
}
