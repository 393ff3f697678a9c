package file_test

import (
	"bytes"
	"slices"
	"strings"
	"testing"

	"vellum/api"
	"vellum/file"
	"vellum/trial"
)

// sheet is what a node should hold, by the chapter's words: its bytes, and for each of its indexes 'x', if there is a block, or '.', if it is a hole.
type sheet struct{ bytes, blocks string }

func (s sheet) resize(size int) sheet {
	count := (size + 511) / 512
	return sheet{fit(s.bytes, size, "\x00"), fit(s.blocks, count, ".")}
}

// fit cuts a text off, or fills it up.
func fit(text string, length int, with string) string {
	if length <= len(text) {
		return text[:length]
	}
	return text + strings.Repeat(with, length-len(text))
}

func (s sheet) write(off int, data string) sheet {
	if data == "" {
		return s
	}
	s = s.resize(max(len(s.bytes), off+len(data)))
	blocks := []byte(s.blocks)
	for place := range len(data) {
		blocks[(off+place)/512] = 'x'
	}
	return sheet{s.bytes[:off] + data + s.bytes[off+len(data):], string(blocks)}
}

func (s sheet) wipe(off, n int) sheet {
	bytes, blocks := []byte(s.bytes), []byte(s.blocks)
	stays := make([]bool, len(blocks))
	for place := range bytes {
		if place >= off && place-off < n {
			bytes[place] = 0
		} else {
			stays[place/512] = true
		}
	}
	for index := range blocks {
		if !stays[index] {
			blocks[index] = '.'
		}
	}
	return sheet{string(bytes), string(blocks)}
}

// read is as much of the content as is there.
func (s sheet) read(off, n int) string {
	if off >= len(s.bytes) {
		return ""
	}
	rest := s.bytes[off:]
	return rest[:min(n, len(rest))]
}

// grow is a block of zeros in a hole, by a call of the map.
func (s sheet) grow(index int) sheet {
	return sheet{s.bytes, s.blocks[:index] + "x" + s.blocks[index+1:]}
}

// held are the indexes with a block.
func (s sheet) held() []int {
	var list []int
	for index, what := range s.blocks {
		if what == 'x' {
			list = append(list, index)
		}
	}
	return list
}

// holds asks that a node is as it should be: its content, size, Owned and Runs, and what lies behind the size.
func holds(t *testing.T, f *file.Files, number int, want sheet) {
	t.Helper()
	n := load(t, f, number)
	held := want.held()
	if n.Size != len(want.bytes) || n.Owned != trial.OwnedBy(held) {
		t.Fatalf("node %d: size %d, owned %d, want %d, %d", number, n.Size, n.Owned, len(want.bytes), trial.OwnedBy(held))
	}
	if list, e := f.Runs(number); e != api.OK || !slices.Equal(list, trial.Rows(held)) {
		t.Fatalf("node %d: Runs: %v, %v, want %v", number, list, e, trial.Rows(held))
	}
	if got := content(t, f, number); got != want.bytes {
		t.Fatalf("node %d: the byte %d is other than it should be", number, unlikeAt(got, want.bytes))
	}
	end, e := f.Where(number, min(n.Size/512, api.MaxIndex-1))
	is(t, "Where", e, api.OK)
	if rest := n.Size % 512; end != 0 && rest > 0 && !bytes.Equal(get(t, f, end)[rest:], make([]byte, 512-rest)) {
		t.Fatalf("node %d: behind the size, %d, lie bytes that are not 0", number, n.Size)
	}
}

// content is all that a node holds, in as many reads as it takes.
func content(t *testing.T, f *file.Files, number int) string {
	t.Helper()
	var all strings.Builder
	for {
		data, e := f.ReadAt(number, all.Len(), api.MaxIO)
		is(t, "ReadAt", e, api.OK)
		if all.Write(data); len(data) < api.MaxIO {
			return all.String()
		}
	}
}

func unlikeAt(a, b string) int {
	for i := range min(len(a), len(b)) {
		if a[i] != b[i] {
			return i
		}
	}
	return min(len(a), len(b))
}
