package fs

import (
	"errors"

	"vellum/api"
	"vellum/dir"
	"vellum/file"
	"vellum/node"
	"vellum/pool"
	"vellum/span"
	"vellum/store"
	"vellum/walk"
)

// step is one transaction of the store, with the views on it, while something is done there.
type step struct {
	*walk.Walk
	fs   *FS
	name string // of what is done
	done int    // the bytes of a Write that lie in the pieces ahead
}

// refusal is how a step gives up: the error, wrapped with the name of what could not go on.
type refusal struct {
	name string
	why  api.Errno
}

func (r refusal) Error() string { return r.name + ": " + r.why.Error() }

func (r refusal) Unwrap() error { return r.why }

// begin opens the store's one transaction. That a dead file system refuses everything comes of it.
func (f *FS) begin(name string) (*step, api.Errno) {
	tx, e := f.store.Begin()
	if e != api.OK {
		return nil, e
	}
	return &step{Walk: views(tx), fs: f, name: name}, api.OK
}

func views(tx *store.Tx) *walk.Walk {
	return walk.On(dir.On(file.On(span.On(node.On(pool.On(tx))))))
}

// inStep does something in a step of its own: all of it, or nothing.
func (f *FS) inStep(name string, do func(*step)) (e api.Errno) {
	s, e := f.begin(name)
	if e != api.OK {
		return e
	}
	defer func() {
		if thrown := recover(); thrown != nil {
			e = s.undone(thrown)
		}
	}()
	do(s)
	s.must(s.Commit())
	return api.OK
}

// next ends the step, and begins another one for what is left of the operation.
func (s *step) next() {
	s.must(s.Commit())
	tx, e := s.fs.store.Begin()
	s.must(e)
	s.Walk = views(tx)
}

// undone aborts the step, and tells why it was given up, by what recover has told. What is no refusal is a fault of the program, and goes on.
func (s *step) undone(thrown any) api.Errno {
	s.Abort()
	var why api.Errno
	if err, ok := thrown.(error); ok && errors.As(err, &why) {
		return why
	}
	panic(thrown)
}

// refused is the reply of an operation that was given up. What a Write has written before it found no room stays, and is told.
func (s *step) refused(why api.Errno) api.Reply {
	reply := api.Reply{Err: why}
	if why == api.ErrNoSpace {
		reply.N = s.done
	}
	return reply
}

// must gives up, unless the answer is OK.
func (s *step) must(e api.Errno) {
	if e != api.OK {
		panic(refusal{s.name, e})
	}
}

// mustNot gives up where something is wrong.
func (s *step) mustNot(wrong bool, e api.Errno) {
	if wrong {
		panic(refusal{s.name, e})
	}
}
