package halt_test

import (
	"testing"

	"vellum/api"
	"vellum/halt"
)

// ended is what a call answers that does this, and what it has handed to spoil.
func ended(do func()) (e api.Errno, spoilt []api.Errno) {
	defer func() {
		e = halt.Caught(recover(), func(by api.Errno) api.Errno {
			spoilt = append(spoilt, by)
			return api.ErrEnded // what spoil answers is of no account
		})
	}()
	do()
	return api.OK, nil
}

func TestHalt(t *testing.T) {
	for _, c := range []struct {
		what string
		do   func()
		want api.Errno
	}{
		{"nothing", func() {}, api.OK},
		{"On OK", func() { halt.On(api.OK) }, api.OK},
		{"On an error", func() { halt.On(api.ErrRange) }, api.ErrRange},
		{"If nothing is wrong", func() { halt.If(false, api.ErrArg) }, api.OK},
		{"If something is wrong", func() { halt.If(true, api.ErrArg) }, api.ErrArg},
		{"Got with an error", func() { halt.Got(7, api.ErrCorrupt) }, api.ErrCorrupt},
		{"the first of two", func() { halt.On(api.ErrNode); halt.On(api.ErrArg) }, api.ErrNode},
	} {
		e, spoilt := ended(c.do)
		if e != c.want {
			t.Errorf("%s: %v, want %v", c.what, e, c.want)
		}
		if c.want == api.OK && len(spoilt) != 0 || c.want != api.OK && (len(spoilt) != 1 || spoilt[0] != c.want) {
			t.Errorf("%s: handed on to spoil: %v", c.what, spoilt)
		}
	}
	if none, one := halt.Thrown(nil), halt.Thrown(api.ErrRange); none != api.OK || one != api.ErrRange {
		t.Errorf("Thrown: %v, %v", none, one)
	}
	if got := halt.Got("text", api.OK); got != "text" {
		t.Errorf("Got: %q", got)
	}
}
