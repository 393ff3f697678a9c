// Package halt: how a call gives up from deep within, by panic, and what it answers then: those of the views on a transaction (pool, node and those above), and of package find.
package halt

import "vellum/api"

// On gives up, unless the answer is OK.
func On(e api.Errno) {
	if e != api.OK {
		panic(e)
	}
}

// If gives up where something is wrong.
func If(wrong bool, e api.Errno) {
	if wrong {
		panic(e)
	}
}

// Got is what a call has answered; where it was refused it gives up.
func Got[T any](value T, e api.Errno) T {
	On(e)
	return value
}

// Thrown is why a call has given up, by what recover has told at its end: OK, if it did not.
func Thrown(thrown any) api.Errno {
	if thrown == nil {
		return api.OK
	}
	return thrown.(api.Errno)
}

// Caught is what a call of a view answers, likewise. It hands every error to spoil: the transaction itself knows which errors spoil it, and passes over the others.
func Caught(thrown any, spoil func(api.Errno) api.Errno) api.Errno {
	e := Thrown(thrown)
	if e != api.OK {
		spoil(e)
	}
	return e
}
