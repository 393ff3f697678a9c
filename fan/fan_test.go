package fan_test

import (
	"bytes"
	"testing"

	"vellum/fan"
	"vellum/trial"
)

// A pointer is four bytes, the lowest first, and may have all of them.
func TestP801Row(t *testing.T) {
	data := make([]byte, 512)
	copy(data[4:], []byte{1, 2, 3, 4, 255, 255, 255, 255})
	data[508] = 43
	row := fan.Row{1: 0x04030201, 2: 1<<32 - 1, 127: 43}
	if got := fan.Read(data); got != row {
		t.Errorf("Read: %v", got)
	}
	if got := row.Bytes(); !bytes.Equal(got, data) {
		t.Errorf("Bytes: %v", got)
	}
	drawn := trial.NewDice(801).Bytes(512)
	if got := fan.Read(drawn).Bytes(); !bytes.Equal(got, drawn) {
		t.Errorf("Read, then Bytes: %v, want %v", got, drawn)
	}
}

func TestP801Reach(t *testing.T) {
	for depth, want := range []int{1, 128, 16384} {
		if got := fan.Reach(depth); got != want {
			t.Errorf("Reach(%d): %d, want %d", depth, got, want)
		}
	}
}
