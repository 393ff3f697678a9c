package shell_test

import (
	"fmt"
	"strings"
	"testing"
)

// The chapter's own example.
func TestP1606Example(t *testing.T) {
	plays(t,
		said{"list /", "ended"}, said{"disk 64", "ok"}, said{"mkfs 18 4", "ok"}, said{"mount # the first time", "ok"}, said{"space", "ok 40 3"}, said{"create /a", "ok"},
		said{"tree", `ok "/" 1 dir 2 512 1 0 - "/a" 2 file 1 0 0 0 -:0`}, said{`write /a 0 "he\x6clo"`, "ok 5"}, said{"stat /a", "ok 2 file 1 5 1"}, said{"read /a 3 9", `ok "lo"`},
		said{"write /a 6000 x", "ok 1"}, said{"runs /a", "ok 0-1 11-12"}, said{" \t ", ""}, said{"create /a", "exists"}, said{`create "/a`, "word"}, said{"read /a 0 4097", "long"},
		said{"read /a 0 1e3", "word"}, said{"list /", `ok "a" 2 file 0`}, said{"sync", "ok"}, said{"unlink /a", "ok"}, said{"cut", "ok"}, said{"stat /a", "dead"}, said{"mount", "ok"},
		said{"stat /a", "ok 2 file 1 6001 3"}, said{"check 2", "ok 1 1 0 0 4"}, said{"frob", "word"},
	)
}

// The ten examples of the whole, as commands.
func TestP1606TheWhole(t *testing.T) {
	plays(t, mounted(64, 18, 4,
		said{"space", "ok 40 3"}, said{"create /a", "ok"}, said{"space", "ok 39 2"}, said{"write /a 0 hello", "ok 5"}, said{"stat /a", "ok 2 file 1 5 1"}, said{"write /a 6000 x", "ok 1"},
		said{"stat /a", "ok 2 file 1 6001 3"}, said{"runs /a", "ok 0-1 11-12"}, said{"space", "ok 36 2"}, said{"read /a 3 5", `ok "lo\x00\x00\x00"`}, said{"truncate /a 2", "ok"}, said{"stat /a", "ok 2 file 1 2 1"},
		said{"truncate /a 4", "ok"}, said{"read /a 0 9", `ok "he\x00\x00"`}, said{"mkdir /d", "ok"}, said{"rename /a /d/b", "ok"}, said{"symlink d/b /l", "ok"}, said{"read /l 0 2", `ok "he"`}, said{"space", "ok 36 0"},
		said{"create /e", "nonodes"}, said{"sync", "ok"}, said{"unlink /l", "ok"}, said{"cut", "ok"}, said{"mount", "ok"}, said{"lstat /l", "ok 4 link 1 3 1"}, said{"unlink /l", "ok"}, said{"cut 1 1 0", "ok"}, said{"mount", "ok"}, said{"lstat /l", "notfound"},
		said{"rename /d /d/x", "inside"}, said{"rmdir /d", "notempty"}, said{"link /d /f", "isdir"}, said{"unlink /", "path"},
	)...)
}

func TestP1606Disk(t *testing.T) {
	plays(t,
		said{"disk 0", "sectors"}, said{"mount", "ended"}, said{"disk -1", "sectors"}, said{"disk 2049", "sectors"}, said{"disk 999999999", "sectors"}, said{"fuse 0", "ended"}, said{"disk 2048", "ok"}, said{"mkfs 18 1024", "ok"}, said{"mount", "ok"}, said{"space", "ok 1769 1023"},
		said{"disk 1", "ok"}, said{"space", "ended"}, said{"mkfs 18 4", "geometry"}, said{"mount", "corrupt"}, said{"disk 24", "ok"}, said{"mkfs 18 4", "geometry"}, said{"disk 25", "ok"}, said{"mkfs 18 4", "ok"}, said{"mount", "ok"}, said{"space", "ok 1 3"},
		said{"open /a 11", "ok 1"}, said{"disk 0", "sectors"}, said{"fstat 1", "ok 2 file 1 0 0"}, said{"disk 64", "ok"}, said{"fstat 1", "ended"}, said{"check 1", "ended"}, said{"mount", "corrupt"},
	)
}

func TestP1606Mkfs(t *testing.T) {
	plays(t, mounted(64, 18, 4,
		said{"create /a", "ok"}, said{"open /a 1", "ok 1"}, said{"mkfs 17 4", "geometry"}, said{"mkfs 18 5", "geometry"}, said{"mkfs 4 18", "geometry"}, said{"mkfs -18 4", "geometry"}, said{"fstat 1", "ok 2 file 1 0 0"}, said{"list /", `ok "a" 2 file 0`},
		said{"mkfs 20 8", "ok"}, said{"list /", "dead"}, said{"fstat 1", "dead"}, said{"sync", "dead"}, said{"mount", "ok"}, said{"list /", "ok"}, said{"space", "ok 37 7"}, said{"fstat 1", "handle"},
		said{"fuse 0", "ok"}, said{"mkfs 18 4", "dead"}, said{"space", "dead"}, said{"mount", "dead"}, said{"space", "ended"}, said{"cut", "ok"}, said{"space", "ended"}, said{"mount", "ok"}, said{"space", "ok 37 7"},
	)...)
}

func TestP1606Mount(t *testing.T) {
	plays(t, mounted(64, 18, 4,
		said{"open /a 11", "ok 1"}, said{"put 1 hi", "ok 2"}, said{"unlink /a", "ok"}, said{"check 1", "ok 0 1 0 1 1"}, said{"space", "ok 39 2"}, said{"mount", "ok"}, said{"fstat 1", "handle"}, said{"space", "ok 40 3"}, said{"open /b 9", "ok 1"}, said{"open /b 9", "ok 2"},
		said{"fuse 1", "ok"}, said{"create /c", "dead"}, said{"mount", "dead"}, said{"fstat 1", "ended"}, said{"list /", "ended"}, said{"mount", "dead"}, said{"cut 1 1 0", "ok"}, said{"list /", "ended"}, said{"mount", "ok"}, said{"fstat 1", "handle"}, said{"list /", `ok "b" 2 file 0`},
	)...)
}

func TestP1606FuseAndCut(t *testing.T) {
	plays(t, mounted(64, 18, 4,
		said{"fuse 1", "ok"}, said{"fuse -1", "ok"}, said{"create /a", "ok"}, said{"sync", "ok"}, said{"fuse 1", "ok"}, said{"sync", "ok"}, said{"sync", "dead"}, said{"fuse 5", "ok"}, said{"fuse -1", "ok"}, said{"stat /a", "dead"}, said{"cut 0 0 0", "ok"}, said{"mount", "ok"}, said{"stat /a", "ok 2 file 1 0 0"},
		said{"unlink /a", "ok"}, said{"cut 0 1 512", "ok"}, said{"mount", "ok"}, said{"stat /a", "ok 2 file 1 0 0"}, said{"unlink /a", "ok"}, said{"cut 0 1 0", "ok"}, said{"mount", "ok"}, said{"stat /a", "notfound"},
		said{"create /a", "ok"}, said{"cut -1 -1 -1", "ok"}, said{"mount", "ok"}, said{"stat /a", "notfound"}, said{"create /a", "ok"}, said{"cut 1 0 512 1 0 512", "ok"}, said{"mount", "ok"}, said{"stat /a", "ok 2 file 1 0 0"},
		said{"unlink /a", "ok"}, said{"cut 1 1 0 0 0 0", "ok"}, said{"mount", "ok"}, said{"stat /a", "ok 2 file 1 0 0"}, // two sectors were pending: the second one is lost, and with it the step
	)...)
	plays(t, said{"disk 64", "ok"}, said{"cut", "ok"}, said{"cut 5 6 7", "ok"}, said{"fuse 0", "ok"}, said{"mkfs 18 4", "dead"}, said{"cut", "ok"}, said{"mkfs 18 4", "ok"}, said{"fuse 3", "ok"}, said{"disk 64", "ok"}, said{"mkfs 18 4", "ok"})
}

func TestP1606SyncAndCheckpoint(t *testing.T) {
	for _, how := range []string{"sync", "checkpoint"} {
		plays(t, mounted(64, 18, 4, said{"create /a", "ok"}, said{how, "ok"}, said{"create /b", "ok"}, said{"cut", "ok"}, said{how, "dead"}, said{"mount", "ok"}, said{"list /", `ok "a" 2 file 0`})...)
	}
	// Sync makes one flush and no write; a checkpoint with nothing to bring home more than that.
	plays(t, mounted(64, 18, 4, said{"create /a", "ok"}, said{"fuse 2", "ok"}, said{"sync", "ok"}, said{"sync", "ok"}, said{"sync", "dead"})...)
	plays(t, mounted(64, 18, 4, said{"create /a", "ok"}, said{"fuse 2", "ok"}, said{"checkpoint", "dead"})...)
}

func TestP1606Names(t *testing.T) {
	plays(t, mounted(80, 18, 8,
		said{"create a", "path"}, said{`create ""`, "path"}, said{"create /", "path"}, said{"create /d/a", "notfound"}, said{"mkdir /d", "ok"}, said{"mkdir /d", "exists"}, said{"create /d/a", "ok"}, said{"mkdir /d/a/b", "notdir"}, said{"symlink /d/a /s", "ok"}, said{"readlink /s", `ok "/d/a"`},
		said{"symlink /s /s", "exists"}, said{`symlink "" /t`, "path"}, said{"symlink a t", "path"}, said{"symlink " + strings.Repeat("x", 256) + " /t", "long"}, said{`symlink "a b\"\\\n\xff" "/t #"`, "ok"}, said{`readlink "/t #"`, `ok "a b\"\\\n\xff"`}, said{"readlink /d", "notlink"}, said{"readlink /u", "notfound"},
		said{"link /s /d/b", "ok"}, said{"stat /s", "ok 3 file 2 0 0"}, said{"lstat /s", "ok 4 link 1 4 1"}, said{"stat /d", "ok 2 dir 2 512 1"}, said{"lstat /d", "ok 2 dir 2 512 1"}, said{"stat /", "ok 1 dir 3 512 1"}, said{"link /d/b /d/a", "exists"}, said{"link /d /x", "isdir"},
		said{"list /", `ok "d" 2 dir 0 "s" 4 link 1 "t #" 5 link 2`}, said{"list /d", `ok "a" 3 file 0 "b" 3 file 1`}, said{"list /s", "notdir"}, said{"list /x", "notfound"},
		said{"unlink /d", "isdir"}, said{"rmdir /d", "notempty"}, said{"rmdir /s", "notdir"}, said{"rename /d/b /b", "ok"}, said{"rename /x /y", "notfound"}, said{"rename /d /d/e", "inside"}, said{"rename /b /d", "isdir"}, said{"rename /d /b", "notdir"}, said{"rename /s /d/a", "ok"},
		said{"list /d", `ok "a" 4 link 0`}, said{"stat /b", "ok 3 file 1 0 0"}, said{"stat /d/a", "loop"}, said{"unlink /d/a", "ok"}, said{"list /d", "ok"}, said{"rmdir /d", "ok"}, said{`unlink "/t #"`, "ok"}, said{"unlink /b", "ok"}, said{"list /", "ok"}, said{"stat /", "ok 1 dir 2 0 0"}, said{"unlink /b", "notfound"}, said{"rmdir /b", "notfound"},
		said{`mkdir "/a\xff\x00"`, "name"}, said{"mkdir /" + strings.Repeat("x", 55), "long"}, said{`mkdir "/\x01\"\\ \xe9"`, "ok"}, said{"list /", `ok "\x01\"\\ \xe9" 2 dir 0`},
	)...)
}

func TestP1606Content(t *testing.T) {
	four := strings.Repeat("x", 4096)
	plays(t, mounted(80, 18, 8,
		said{"read /a 0 1", "notfound"}, said{"write /a 0 x", "notfound"}, said{"create /a", "ok"}, said{"read /a 0 4096", `ok ""`}, said{"write /a 0 " + four, "ok 4096"}, said{"read /a 0 4096", `ok "` + four + `"`}, said{"read /a 0 4097", "long"}, said{"read /a 4095 2", `ok "x"`}, said{"read /a 0 0", `ok ""`},
		said{"read /a 0 -1", "arg"}, said{"read /a -1 1", "arg"}, said{"read /a -1 4097", "long"}, said{"read a 0 4097", "long"}, said{"read /b 0 4097", "long"}, said{"read a 0 1", "path"}, said{"read / 0 1", "isdir"}, said{"read /a 5000 5", `ok ""`},
		said{"runs /a", "ok 0-8"}, said{`write /a 1 ""`, "ok 0"}, said{`write /a 1 "\x00 \\"`, "ok 3"}, said{"read /a 0 6", `ok "x\x00 \\xx"`}, said{"write /a -1 x", "arg"}, said{"write /a 8459264 x", "big"}, said{"write /a 8459263 x", "ok 1"}, said{"stat /a", "ok 2 file 1 8459264 11"}, said{"runs /a", "ok 0-8 16521-16522"},
		said{"truncate /a 8459265", "big"}, said{"truncate /a -1", "arg"}, said{"truncate /a 5000", "ok"}, said{"stat /a", "ok 2 file 1 5000 8"}, said{"punch /a 512 1024", "ok"}, said{"runs /a", "ok 0-1 3-8"}, said{"punch /a -1 5", "arg"}, said{"punch /a 5 -1", "arg"}, said{"punch /a 0 2", "ok"}, said{"read /a 0 4", `ok "\x00\x00 \\"`},
		said{"punch /a 1536 999999999", "ok"}, said{"runs /a", "ok 0-1"}, said{"punch /a 0 4", "ok"}, said{"truncate /a 0", "ok"}, said{"runs /a", "ok"}, said{"runs /", "isdir"}, said{"truncate / 0", "isdir"}, said{"punch / 0 1", "isdir"}, said{"write / 0 x", "isdir"}, said{"truncate /b 0", "notfound"},
	)...)
}

// Where there is no room, what was written is told: in the steps ahead of the one that found none.
func TestP1606NoSpace(t *testing.T) {
	ten := strings.Repeat("y", 10000)
	fill := []said{{"create /a", "ok"}, {"create /b", "ok"}, {"write /a 0 " + strings.Repeat("x", 5632), "ok 5632"}, {"space", "ok 29 1"}, {"write /b 0 " + strings.Repeat("z", 4096), "ok 4096"}, {"write /b 4096 " + strings.Repeat("z", 4096), "ok 4096"}, {"space", "ok 12 1"}}
	plays(t, mounted(66, 18, 4, append(fill, said{"write /a 8192 " + ten, "nospace 4096"}, said{"write /a 12288 " + ten, "nospace 0"}, said{"stat /a", "ok 2 file 1 12288 20"}, said{"space", "ok 4 1"}, said{"write /a 12288 z", "ok 1"})...)...)
	plays(t, mounted(66, 18, 4, append(fill, said{"open /a 2", "ok 1"}, said{"seek 1 8192 0", "ok 8192"}, said{"put 1 " + ten, "nospace 4096"}, said{"seek 1 0 1", "ok 12288"}, said{"put 1 " + ten, "nospace 0"}, said{"put 1 z", "ok 1"}, said{"seek 1 0 1", "ok 12289"})...)...)
	plays(t, mounted(25, 18, 4, said{"create /a", "ok"}, said{"create /b", "ok"}, said{"write /a 0 x", "nospace 0"}, said{"mkdir /c", "ok"}, said{"create /c/d", "nonodes"}, said{"unlink /b", "ok"}, said{"create /c/d", "nospace"}, said{"symlink a /s", "nospace"})...)
}

func TestP1606Handles(t *testing.T) {
	pairs := mounted(80, 18, 8,
		said{"open /a 1", "notfound"}, said{"open /a 0", "mode"}, said{"open /a 64", "mode"}, said{"open /a -1", "mode"}, said{"open a 0", "path"}, said{"open / 1", "isdir"}, said{"open /a 26", "ok 1"}, said{"open /a 26", "exists"}, said{"get 1 5", "mode"}, said{`put 1 "hello\n"`, "ok 6"}, said{"open /a 1", "ok 2"},
		said{"get 2 3", `ok "hel"`}, said{"get 2 4096", `ok "lo\n"`}, said{"get 2 1", `ok ""`}, said{"get 2 0", `ok ""`}, said{"get 2 -1", "arg"}, said{"get 2 4097", "long"}, said{"get 1 4097", "long"}, said{"get 9 4097", "long"}, said{"get 9 1", "handle"}, said{"get 0 1", "handle"}, said{"get -1 1", "handle"}, said{"put 2 x", "mode"}, said{"put 3 x", "handle"}, said{`put 1 ""`, "ok 0"},
		said{"seek 2 -2 2", "ok 4"}, said{"seek 2 -2 1", "ok 2"}, said{"seek 2 1 0", "ok 1"}, said{"seek 2 -2 1", "arg"}, said{"seek 2 0 3", "arg"}, said{"seek 2 0 -1", "arg"}, said{"seek 2 8459264 1", "big"}, said{"seek 3 0 0", "handle"}, said{"get 2 2", `ok "el"`}, said{"fstat 2", "ok 2 file 1 6 1"}, said{"fstat 3", "handle"}, said{"rename /a /b", "ok"}, said{"link /b /c", "ok"}, said{"fstat 1", "ok 2 file 2 6 1"},
		said{"unlink /b", "ok"}, said{"unlink /c", "ok"}, said{"fstat 1", "ok 2 file 0 6 1"}, said{"open /d 14", "ok 3"}, said{"put 3 one", "ok 3"}, said{"seek 3 0 0", "ok 0"}, said{"put 3 two", "ok 3"}, said{"read /d 0 9", `ok "onetwo"`}, said{"open /d 34", "ok 4"}, said{"stat /d", "ok 3 file 1 0 0"},
		said{"close 1", "ok"}, said{"close 1", "handle"}, said{"close 17", "handle"}, said{"space", "ok 53 5"}, said{"close 2", "ok"}, said{"space", "ok 54 6"}, said{"open /d 3", "ok 1"}, said{"open /d 3", "ok 2"},
	)
	for h := 5; h <= 16; h++ {
		pairs = append(pairs, said{"open /d 1", fmt.Sprint("ok ", h)})
	}
	plays(t, append(pairs, said{"open /d 1", "many"}, said{"close 7", "ok"}, said{"open /d 1", "ok 7"}, said{"cut", "ok"}, said{"open /d 1", "dead"}, said{"get 1 1", "dead"}, said{"get 1 4097", "long"}, said{"put 1 x", "dead"}, said{"seek 1 0 0", "dead"}, said{"fstat 1", "dead"}, said{"close 1", "dead"}, said{"read /d 0 4097", "long"})...)
}

func TestP1606Check(t *testing.T) {
	plays(t, mounted(80, 18, 8,
		said{"check 1", "ok 0 1 0 0 0"}, said{"mkdir /d", "ok"}, said{"mkdir /e", "ok"}, said{"create /d/a", "ok"}, said{"link /d/a /b", "ok"}, said{"symlink x /s", "ok"}, said{"symlink x /d/s", "ok"}, said{"open /d/o 11", "ok 1"}, said{"write /b 9000 x", "ok 1"}, said{"put 1 x", "ok 1"},
		said{"unlink /d/o", "ok"}, said{"check 1", "ok 1 3 2 1 7"}, said{"check 8", "ok 1 3 2 1 7"}, said{"check 0", "workers"}, said{"check 9", "workers"}, said{"check -1", "workers"}, said{"space", "ok 48 1"}, said{"fuse 0", "ok"}, said{"check 0", "dead"}, said{"check 1", "dead"},
	)...)
}

// The tape goes on through all that becomes of disks and file systems.
func TestP1606Tape(t *testing.T) {
	plays(t,
		said{"items", "archive"}, said{`tape "vlmarch\x01\x00\x00\x00\x00\x00\xf8\x10\x78\xce"`, "ok"}, said{"items", "ok 0"}, said{"restore", "ended"}, said{"dump", "ended"}, said{"disk 80", "ok"}, said{"mkfs 18 8", "ok"}, said{"mount", "ok"}, said{"restore", "ok 0"}, said{"tape x", "ok"}, said{"items", "archive"}, said{"restore", "archive 0"},
		said{"dump", "ok 17 3463975160"}, said{"create /a", "ok"}, said{"items", "ok 0"}, said{"write /a 0 hi", "ok 2"}, said{"mkdir /d", "ok"}, said{"link /a /d/b", "ok"}, said{"symlink a /l", "ok"}, said{"dump", "ok 578 1762441676"}, said{"items", "ok 4"}, said{"restore", "exists 0"}, said{"unlink /a", "ok"}, said{"restore", "exists 1"}, said{"cut", "ok"}, said{"restore", "dead 0"}, said{"dump", "dead"}, said{"items", "ok 4"},
		said{"disk 64", "ok"}, said{"items", "ok 4"}, said{"restore", "ended"}, said{"mkfs 18 4", "ok"}, said{"mount", "ok"}, said{"restore", "ok 4"}, said{"list /", `ok "a" 2 file 0 "d" 3 dir 1 "l" 4 link 2`}, said{"dump", "ok 578 1762441676"}, said{`tape ""`, "ok"}, said{"items", "archive"}, said{"restore", "archive 0"},
		said{"dump", "ok 578 1762441676"}, said{"disk 25", "ok"}, said{"mkfs 18 4", "ok"}, said{"mount", "ok"}, said{"restore", "nospace 0"}, said{"items", "ok 4"}, said{"restore", "exists 0"},
	)
}

// A tree of which no archive can be made leaves the tape as it was.
func TestP1606TapeStays(t *testing.T) {
	pairs := mounted(120, 18, 32, said{"create /a", "ok"}, said{"dump", "ok 34 1975853833"})
	pairs = append(pairs, tooDeep()...)
	plays(t, append(pairs, said{"dump", "long"}, said{"items", "ok 1"})...)
}
