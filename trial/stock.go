package trial

import (
	"vellum/api"
	"vellum/store"
)

// Stock is what a view has that knows which blocks are free.
type Stock interface {
	View
	Left() (int, int, api.Errno)
	TakeBlock() (int, api.Errno)
}

// Left is how many blocks are free.
func Left(t T, v Stock) int {
	t.Helper()
	blocks, _, e := v.Left()
	Is(t, "Left", e, api.OK)
	return blocks
}

// TakeTo leaves so many blocks free.
func TakeTo(t T, v Stock, free int) {
	t.Helper()
	for Left(t, v) > free {
		_, e := v.TakeBlock()
		Is(t, "TakeBlock", e, api.OK)
	}
}

// Filled lays other bytes into the blocks from that one on, and commits them: so a fresh block is put when it is cleared.
func Filled[V View](t T, s *store.Store, v V, from int, on func(*store.Tx) V) V {
	t.Helper()
	for b := from; b < v.Layout().Blocks; b++ {
		Is(t, "Put", v.Put(b, Fill(byte(b))), api.OK)
		if b%api.MaxTx == 0 {
			v = Next(t, s, v, on)
		}
	}
	return Next(t, s, v, on)
}
