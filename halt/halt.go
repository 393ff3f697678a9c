// Package halt: how a call of the views on a transaction (pool, node and those above) gives up from deep within, by panic, and what it answers then.
package halt

import "vellum/api"

// On gives up, unless the answer is OK.
func On(e api.Errno) {
	if e != api.OK {
		panic(e)
	}
}

// If gives up where something is wrong.
func If(wrong bool, e api.Errno) {
	if wrong {
		panic(e)
	}
}

// Got is what a call has answered; where it was refused it gives up.
func Got[T any](value T, e api.Errno) T {
	On(e)
	return value
}

// Caught is what a call answers, by what recover has told at its end: OK, if it did not give up. It hands every error to spoil: the transaction itself knows which errors spoil it, and passes over the others.
func Caught(thrown any, spoil func(api.Errno) api.Errno) api.Errno {
	if thrown == nil {
		return api.OK
	}
	e := thrown.(api.Errno)
	spoil(e)
	return e
}
