package handle

import (
	"vellum/api"
	"vellum/fs"
)

// From where a Seek counts.
const (
	fromStart = 0
	fromHere  = 1
	fromSize  = 2
)

// place is where a handle goes on in its file. The file is meant by its number, as it may have lost its names; it is held as long as the handle is open.
type place struct {
	fs   *fs.FS
	node int
	at   int
}

// do does an operation on the file.
func (p *place) do(op api.Op) api.Reply {
	op.Node = p.node
	return p.fs.Do(op)
}

func (p *place) here() (int, api.Errno) { return p.at, api.OK }

func (p *place) size() (int, api.Errno) {
	s, e := p.stat()
	return s.Size, e
}

func (p *place) stat() (api.Stat, api.Errno) {
	r := p.do(api.Op{Kind: api.OpStat})
	return r.Stat, r.Err
}

func (p *place) empty() api.Errno { return p.do(api.Op{Kind: api.OpTruncate}).Err }

func (p *place) release() api.Errno { return p.fs.Release(p.node) }

// get reads from the place on. A number of bytes that may not be the operation itself refuses, ahead of all else.
func (p *place) get(n int) ([]byte, api.Errno) {
	r := p.do(api.Op{Kind: api.OpRead, Off: p.at, N: n})
	p.at += r.N
	return r.Data, r.Err
}

// put writes from where it is told on. Where there was no room for all of it, what was written is there, and the place lies behind it.
func (p *place) put(data []byte, from func() (int, api.Errno)) (int, api.Errno) {
	if len(data) > api.MaxIO { // the operation would refuse it too, but the size may be asked for ahead of that
		return 0, api.ErrLong
	}
	off, e := from()
	if e != api.OK {
		return 0, e
	}
	r := p.do(api.Op{Kind: api.OpWrite, Off: off, Data: data})
	if r.Err == api.OK || r.Err == api.ErrNoSpace {
		p.at = off + r.N
	}
	return r.N, r.Err
}

// seek moves the place.
func (p *place) seek(off, whence int) (int, api.Errno) {
	base, e := p.base(whence)
	if e != api.OK {
		return 0, e
	}
	switch { // the sum itself might be more than an int can be
	case off < -base:
		return 0, api.ErrArg
	case off > api.MaxFile-base:
		return 0, api.ErrBig
	}
	p.at = base + off
	return p.at, api.OK
}

// base is from where a Seek counts.
func (p *place) base(whence int) (int, api.Errno) {
	switch whence {
	case fromStart:
		return 0, api.OK
	case fromHere:
		return p.here()
	case fromSize:
		return p.size()
	}
	return 0, api.ErrArg
}
