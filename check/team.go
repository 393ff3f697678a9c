package check

import "sync"

// placed is a thing with its place in the row of those like it.
type placed[Thing any] struct {
	place int
	thing Thing
}

// team reads one item after the other, in the goroutine that called it, and lets so many others look at what was read. It tells what they found in the order of the items, whoever of them was first; all of them have ended then.
func team[Item, Read, Found any](workers int, items []Item, read func(Item) Read, look func(Read) Found) []Found {
	reads := make(chan placed[Read])
	finds := make(chan placed[Found], len(items)) // room for all: nobody takes one out before all is read
	var joined sync.WaitGroup
	for range workers {
		joined.Add(1)
		go func() {
			defer joined.Done()
			for r := range reads {
				finds <- placed[Found]{r.place, look(r.thing)}
			}
		}()
	}
	for place, item := range items {
		reads <- placed[Read]{place, read(item)}
	}
	close(reads)
	joined.Wait()
	close(finds)
	list := make([]Found, len(items))
	for f := range finds {
		list[f.place] = f.thing
	}
	return list
}
