package trial

import (
	"bytes"

	"vellum/api"
	"vellum/disk"
	"vellum/store"
)

// Twins are two stores of one form, with a transaction each, on which the same is done: by what is tested, and by a plain model of it. They must stay alike, byte for byte.
type Twins struct {
	T       T
	Dice    *Dice
	On      func(tested, model *store.Tx) // lays the views over new transactions
	Refused func(want api.Errno)          // asks that the tested view, whose transaction is over, refuses all its calls
	disks   [2]*disk.Disk
	stores  [2]*store.Store
	txs     [2]*store.Tx
	answers map[api.Errno]int
}

// Start begins with new disks of that form.
func (w *Twins) Start(form api.Super) {
	w.T.Helper()
	for i := range w.disks {
		w.disks[i] = Formatted(w.T, form)
	}
	w.open()
}

func (w *Twins) open() {
	w.T.Helper()
	for i, d := range w.disks {
		w.stores[i] = Opened(w.T, d)
	}
	w.begin()
}

func (w *Twins) begin() {
	w.T.Helper()
	for i, s := range w.stores {
		w.txs[i] = Begun(w.T, s)
	}
	w.On(w.txs[0], w.txs[1])
}

// Same asks for the error that the model answers, and counts it.
func (w *Twins) Same(what string, got, want api.Errno) {
	w.T.Helper()
	if w.answers == nil {
		w.answers = map[api.Errno]int{}
	}
	w.answers[got]++
	Is(w.T, what, got, want)
}

// Answered asks that each of these errors was often answered: else the draw is thin.
func (w *Twins) Answered(list ...api.Errno) {
	w.T.Helper()
	for _, e := range list {
		if w.answers[e] < 20 {
			w.T.Fatalf("the draw is thin: %v was answered %d times", e, w.answers[e])
		}
	}
}

// Put puts a block beside the views' calls.
func (w *Twins) Put(block int, data []byte) {
	w.T.Helper()
	Is(w.T, "Put", w.txs[0].Put(block, data), w.txs[1].Put(block, data))
}

// PutFree puts drawn bytes into some free blocks: that is no view's business, but for the budget.
func (w *Twins) PutFree(count int) {
	w.T.Helper()
	l := w.txs[1].Layout()
	bits, e := w.txs[1].Get(0)
	for range count {
		b := l.Data + w.Dice.Below(l.Blocks-l.Data)
		if e == api.OK && bits[b/8]>>(b%8)%2 == 0 {
			w.Put(b, w.Dice.Bytes(api.Size))
		}
	}
}

// Alike holds the first blocks, so many, or in their stead the transaction's refusal, against the model's.
func (w *Twins) Alike(what string, blocks int) {
	w.T.Helper()
	for b := range blocks {
		data, e := w.txs[0].Get(b)
		want, wantE := w.txs[1].Get(b)
		Is(w.T, what+", then Get", e, wantE)
		if !bytes.Equal(data, want) {
			w.T.Fatalf("behind %s block %d holds other bytes", what, b)
		}
		if e != api.OK {
			return
		}
	}
}

// End ends the transactions now and then, and begins others: it tells by what it did so, or "". A spoilt one goes on for a while, to be refused.
func (w *Twins) End() string {
	w.T.Helper()
	if w.txs[0].State() != api.OK && w.Dice.Below(3) == 0 {
		w.Abort()
		return "Abort"
	}
	switch what := w.Dice.Below(60); {
	case what < 1:
		w.Cut()
		return "Crash"
	case what < 3:
		w.Abort()
		return "Abort"
	case what < 9:
		w.Commit()
		return "Commit"
	}
	return ""
}

// Commit ends the transactions, by an Abort where they are spoilt, and begins others.
func (w *Twins) Commit() {
	w.T.Helper()
	if w.txs[0].State() != api.OK {
		w.Abort()
		return
	}
	Is(w.T, "Commit", w.txs[0].Commit(), w.txs[1].Commit())
	w.next()
}

// Abort ends the transactions, and begins others.
func (w *Twins) Abort() {
	w.T.Helper()
	Is(w.T, "Abort", w.txs[0].Abort(), w.txs[1].Abort())
	w.next()
}

func (w *Twins) next() {
	w.T.Helper()
	w.Refused(api.ErrEnded)
	if w.Dice.Below(4) == 0 && !bytes.Equal(w.disks[0].Image(), w.disks[1].Image()) {
		w.T.Fatalf("the disks are unlike")
	}
	w.begin()
}

// Sync makes durable what was committed.
func (w *Twins) Sync() {
	w.T.Helper()
	Is(w.T, "Sync", w.stores[0].Sync(), w.stores[1].Sync())
}

// Cut takes the power away, with the same picks on both disks.
func (w *Twins) Cut() {
	w.T.Helper()
	if w.Dice.Below(2) == 0 {
		w.Sync()
	}
	var picks []api.Pick
	for range w.Dice.Below(4) {
		picks = append(picks, api.Pick{A: w.Dice.Below(2), B: w.Dice.Below(2), Cut: w.Dice.Below(513)})
	}
	for _, d := range w.disks {
		d.Crash(picks)
	}
	w.Refused(api.ErrDead)
	w.open()
}
