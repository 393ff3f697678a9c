package patch

import (
	"iter"
	"slices"

	"vellum/api"
)

// beside goes through lists side by side that rise by a key: it tells each key that one of them has, with what each list has there, or nil.
func beside[K, E any](key func(E) K, order func(a, b K) int, lists ...[]E) iter.Seq2[K, []*E] {
	return func(yield func(K, []*E) bool) {
		left := slices.Clone(lists)
		for {
			next, more := least(key, order, left)
			if !more {
				return
			}
			at := make([]*E, len(left))
			for i, list := range left {
				if len(list) > 0 && order(key(list[0]), next) == 0 {
					at[i], left[i] = &list[0], list[1:]
				}
			}
			if !yield(next, at) {
				return
			}
		}
	}
}

// least is the least key with which one of the lists begins; false, if none of them has one.
func least[K, E any](key func(E) K, order func(a, b K) int, lists [][]E) (K, bool) {
	var next K
	more := false
	for _, list := range lists {
		if len(list) > 0 && (!more || order(key(list[0]), next) < 0) {
			next, more = key(list[0]), true
		}
	}
	return next, more
}

func pathOf(item api.Item) string { return item.Path }

func pathOfChange(change api.Change) string { return change.Item.Path }
