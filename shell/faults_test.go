package shell

import (
	"bytes"
	"testing"

	"vellum/api"
)

// No command lays a fault; so a disk is written beside the file system here.
func TestP1606CheckTellsFaults(t *testing.T) {
	s := session{commands: commands()}
	for _, line := range []string{"disk 64", "mkfs 18 4", "mount", "checkpoint"} {
		if got := s.answer(line); got != "ok" {
			t.Fatalf("%s: %s", line, got)
		}
	}
	lay := func(block int, first ...byte) {
		t.Helper()
		if e := s.disk.Write(21+block, append(first, make([]byte, api.Size-len(first))...)); e != api.OK {
			t.Fatal(e)
		}
	}
	asks := func(line, want string) {
		t.Helper()
		if got := s.answer(line); got != want {
			t.Errorf("P1606: %s: %q, want %q", line, got, want)
		}
	}
	asks("check 1", "ok 0 1 0 0 0")
	lay(1, 13) // the nodes 1, 3 and 4 are taken
	asks("check 1", "corrupt 3 2")
	asks("check 8", "corrupt 3 2")
	asks("check 9", "workers")
	lay(2, bytes.Repeat([]byte{1}, 512)...) // four broken slots
	asks("check 2", "corrupt 1 4")
	asks("mount", "corrupt")
	asks("check 2", "ended")
}
