package find

import (
	"vellum/api"
	"vellum/halt"
)

// row is what is left to be read, from the left: the words of a query, or the bytes of a pattern.
type row[T comparable] struct {
	left  []T
	wrong api.Errno // what is wrong where it ends too early
}

func (r *row[T]) ended() bool { return len(r.left) == 0 }

func (r *row[T]) next() T {
	halt.If(r.ended(), r.wrong)
	first := r.left[0]
	r.left = r.left[1:]
	return first
}

// took says whether just this comes next, and goes on behind it if so.
func (r *row[T]) took(this T) bool {
	if r.ended() || r.left[0] != this {
		return false
	}
	r.next()
	return true
}
