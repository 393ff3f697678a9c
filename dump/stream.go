package dump

import (
	"iter"
	"sync"

	"vellum/api"
)

// archiveOf makes an archive of items. Another goroutine makes the items, and sends each as soon as it has it; it has ended when this answers.
func archiveOf(source iter.Seq[api.Item]) ([]byte, api.Errno) {
	items, done := make(chan api.Item), make(chan struct{})
	var producer sync.WaitGroup
	producer.Add(1)
	go func() {
		defer producer.Done()
		send(source, items, done)
	}()
	archive, e := written(items)
	// Nobody takes an item any more, so the producer has no choice: how far it goes, and what it asks of a disk, hangs on no schedule.
	close(done)
	producer.Wait()
	return archive, e
}

// send sends the items one after the other, till there is none more or none is wanted.
func send(source iter.Seq[api.Item], items chan<- api.Item, done <-chan struct{}) {
	defer close(items)
	for item := range source {
		select {
		case items <- item:
		case <-done:
			return
		}
	}
}

// written takes the items as they come, and stops at the first that may not be.
func written(items <-chan api.Item) ([]byte, api.Errno) {
	w := newWriter()
	for item := range items {
		if e := w.put(item); e != api.OK {
			return nil, e
		}
	}
	return w.archive()
}
