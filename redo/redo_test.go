package redo_test

import (
	"bytes"
	"encoding/binary"
	"maps"
	"slices"
	"testing"

	"vellum/redo"
	"vellum/trial"
)

// filled is a content of one byte.
func filled(x byte) redo.Content { return redo.Content(trial.Fill(x)) }

// recordOf is a record by the words of chapter 5, of blocks right or not.
func recordOf(count int, blocks ...int) []byte {
	low := binary.LittleEndian
	record := low.AppendUint16(nil, uint16(count))
	for _, b := range blocks {
		record = low.AppendUint32(record, uint32(b))
	}
	for i := range blocks {
		record = append(record, trial.Fill(byte('a'+i))...)
	}
	return record
}

// A record holds the blocks in rising order; what is read of it is what was changed.
func TestRecord(t *testing.T) {
	changes := redo.Changes{300: filled('b'), 2: filled('a'), 2026: filled('c')}
	if got := changes.InOrder(); !slices.Equal(got, []int{2, 300, 2026}) {
		t.Errorf("InOrder: %v", got)
	}
	record := changes.Record()
	if want := recordOf(3, 2, 300, 2026); !bytes.Equal(record, want) {
		t.Errorf("Record: %v, want %v", record[:20], want[:20])
	}
	read := redo.Changes{2: filled('z'), 5: filled('y')}
	if !read.Read(record, 2027) {
		t.Fatalf("Read refuses what Record has made")
	}
	if want := (redo.Changes{2: filled('a'), 5: filled('y'), 300: filled('b'), 2026: filled('c')}); !maps.Equal(read, want) {
		t.Errorf("Read: %v", read.InOrder())
	}
	clear(record)
	if read[2] != filled('a') {
		t.Errorf("Read keeps the record")
	}
}

// Sixteen blocks are as many as there may be.
func TestMost(t *testing.T) {
	blocks := trial.Span(0, 16)
	read := redo.Changes{}
	if !read.Read(recordOf(16, blocks...), 16) || !slices.Equal(read.InOrder(), blocks) {
		t.Errorf("Read of 16 blocks: %v", read.InOrder())
	}
	if read := (redo.Changes{}); read.Read(recordOf(17, trial.Span(0, 17)...), 17) || len(read) > 0 {
		t.Errorf("Read of 17 blocks: %v", read.InOrder())
	}
}

// Of what is no record nothing is laid.
func TestNoRecord(t *testing.T) {
	right := recordOf(2, 4, 9)
	for what, record := range map[string][]byte{
		"nothing":             nil,
		"a byte":              {2},
		"a count alone":       {2, 0},
		"no block":            {0, 0},
		"a count too small":   append([]byte{1}, right[1:]...),
		"a count too great":   append([]byte{3}, right[1:]...),
		"a great count":       append([]byte{2, 1}, right[2:]...),
		"a byte too few":      right[:len(right)-1],
		"a byte too many":     append(slices.Clone(right), 0),
		"equal numbers":       recordOf(2, 4, 4),
		"falling numbers":     recordOf(2, 9, 4),
		"a block too great":   recordOf(2, 4, 10),
		"a first one as well": recordOf(2, 11, 12),
		"a very great one":    recordOf(2, 4, 1<<32-1),
	} {
		read := redo.Changes{4: filled('q')}
		if read.Read(record, 10) || !maps.Equal(read, redo.Changes{4: filled('q')}) {
			t.Errorf("%s: it is read", what)
		}
	}
	if !(redo.Changes{}).Read(right, 10) {
		t.Errorf("Read refuses the right one")
	}
}
