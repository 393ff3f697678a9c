package handle_test

import (
	"vellum/api"
	"vellum/fs"
	"vellum/handle"
	"vellum/walk"
)

// What is done at a desk.
const (
	doesOpen = iota
	doesRead
	doesWrite
	doesSeek
	doesStat
	doesClose
	doesOp // at the file system, beside the desk
)

type call struct {
	what   int
	desk   int
	path   string
	handle int
	a, b   int // the mode; how many bytes; the offset and from where
	data   []byte
	op     api.Op
}

type answer struct {
	n    int
	data string
	stat api.Stat
	e    api.Errno
}

// asked is a call of the desk itself.
func asked(k *handle.Desk, c call) (r answer) {
	var data []byte
	switch c.what {
	case doesOpen:
		r.n, r.e = k.Open(c.path, c.a)
	case doesRead:
		data, r.e = k.Read(c.handle, c.a)
	case doesWrite:
		r.n, r.e = k.Write(c.handle, c.data)
	case doesSeek:
		r.n, r.e = k.Seek(c.handle, c.a, c.b)
	case doesStat:
		r.stat, r.e = k.Stat(c.handle)
	case doesClose:
		r.e = k.Close(c.handle)
	}
	r.data = string(data)
	return r
}

// clerk does what a desk does by the chapter's words, one by one: it makes the calls of the file system that they name, and no others.
type clerk struct {
	f    *fs.FS
	open map[int]hand
}

// hand is an open handle.
type hand struct{ node, mode, place int }

func (k *clerk) asked(c call) answer {
	if _, _, e := k.f.Space(); e == api.ErrDead {
		return answer{e: e}
	}
	if c.what == doesOpen {
		return k.opens(c.path, c.a)
	}
	h, is := k.open[c.handle]
	if !is {
		return answer{e: api.ErrHandle}
	}
	switch c.what {
	case doesRead:
		return k.reads(c.handle, h, c.a)
	case doesWrite:
		return k.writes(c.handle, h, c.data)
	case doesSeek:
		return k.seeks(c.handle, h, c.a, c.b)
	case doesStat:
		r := k.f.Do(api.Op{Kind: api.OpStat, Node: h.node})
		return answer{stat: r.Stat, e: r.Err}
	}
	delete(k.open, c.handle)
	return answer{e: k.f.Release(h.node)}
}

func (k *clerk) opens(path string, mode int) answer {
	if len(k.open) == 16 {
		return answer{e: api.ErrMany}
	}
	if _, e := walk.Split(path); e != api.OK {
		return answer{e: e}
	}
	read, write, append, create, fresh, empty := mode&1, mode>>1&1, mode>>2&1, mode>>3&1, mode>>4&1, mode>>5&1
	if mode < 1 || mode > 63 || read+write == 0 || append > write || empty > write || fresh > create {
		return answer{e: api.ErrMode}
	}
	if fresh == 1 {
		if r := k.f.Do(api.Op{Kind: api.OpCreate, Path: path}); r.Err != api.OK {
			return answer{e: r.Err}
		}
	}
	node, e := k.f.Hold(path)
	if e == api.ErrNotFound && create == 1 && fresh == 0 {
		if r := k.f.Do(api.Op{Kind: api.OpCreate, Path: path}); r.Err != api.OK {
			return answer{e: r.Err}
		}
		node, e = k.f.Hold(path)
	}
	if e != api.OK {
		return answer{e: e}
	}
	if empty == 1 {
		if r := k.f.Do(api.Op{Kind: api.OpTruncate, Node: node}); r.Err != api.OK {
			k.f.Release(node)
			return answer{e: r.Err}
		}
	}
	for n := 1; ; n++ {
		if _, is := k.open[n]; !is {
			k.open[n] = hand{node, mode, 0}
			return answer{n: n}
		}
	}
}

func (k *clerk) reads(n int, h hand, count int) answer {
	switch {
	case h.mode&1 == 0:
		return answer{e: api.ErrMode}
	case count < 0:
		return answer{e: api.ErrArg}
	case count > 65536:
		return answer{e: api.ErrLong}
	}
	r := k.f.Do(api.Op{Kind: api.OpRead, Node: h.node, Off: h.place, N: count})
	if r.Err != api.OK {
		return answer{e: r.Err}
	}
	h.place += len(r.Data)
	k.open[n] = h
	return answer{data: string(r.Data)}
}

func (k *clerk) writes(n int, h hand, data []byte) answer {
	switch {
	case h.mode&2 == 0:
		return answer{e: api.ErrMode}
	case len(data) > 65536:
		return answer{e: api.ErrLong}
	}
	off := h.place
	if h.mode&4 != 0 {
		r := k.f.Do(api.Op{Kind: api.OpStat, Node: h.node})
		if r.Err != api.OK {
			return answer{e: r.Err}
		}
		off = r.Stat.Size
	}
	r := k.f.Do(api.Op{Kind: api.OpWrite, Node: h.node, Off: off, Data: data})
	if r.Err != api.OK && r.Err != api.ErrNoSpace {
		return answer{e: r.Err}
	}
	h.place = off + r.N
	k.open[n] = h
	return answer{n: r.N, e: r.Err}
}

func (k *clerk) seeks(n int, h hand, off, whence int) answer {
	base := 0
	switch whence {
	case 0:
	case 1:
		base = h.place
	case 2:
		r := k.f.Do(api.Op{Kind: api.OpStat, Node: h.node})
		if r.Err != api.OK {
			return answer{e: r.Err}
		}
		base = r.Stat.Size
	default:
		return answer{e: api.ErrArg}
	}
	switch {
	case off < 0 && off+base < 0:
		return answer{e: api.ErrArg}
	case off > 8459264 || off+base > 8459264:
		return answer{e: api.ErrBig}
	}
	h.place = off + base
	k.open[n] = h
	return answer{n: h.place}
}
