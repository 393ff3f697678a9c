package fs_test

import (
	"strings"

	"vellum/api"
	"vellum/halt"
	"vellum/walk"
)

// do says what an operation answers, and what the tree is behind each of its steps.
func (m *model) do(op api.Op) (api.Reply, []*model) {
	if op.Kind == api.OpWrite {
		return m.write(op)
	}
	after := m.clone()
	reply := after.once(op)
	if reply.Err != api.OK {
		return reply, nil
	}
	return reply, []*model{after}
}

// once does an operation of one step, at this very tree.
func (m *model) once(op api.Op) (reply api.Reply) {
	defer func() {
		if e := halt.Caught(recover(), unspoilt); e != api.OK {
			reply = api.Reply{Err: e}
		}
	}()
	switch op.Kind {
	case api.OpCreate, api.OpMkdir, api.OpSymlink:
		m.birth(op)
	case api.OpLink:
		m.link(op)
	case api.OpUnlink, api.OpRmdir:
		m.death(op)
	case api.OpRename:
		m.rename(op)
	case api.OpTruncate, api.OpPunch:
		m.cut(op)
	case api.OpRead, api.OpRuns, api.OpStat:
		return m.told(op)
	case api.OpLstat, api.OpList, api.OpReadlink:
		return m.named(op)
	default:
		halt.On(api.ErrOp)
	}
	return api.Reply{}
}

// names gives up where a path names nothing.
func names(path string) {
	parts := halt.Got(walk.Split(path))
	halt.If(len(parts) == 0 || parts[len(parts)-1] == "..", api.ErrPath)
}

// found is a place with a node.
func (m *model) found(path string, follow bool) api.Place {
	p := m.resolve(path, follow)
	halt.If(p.Node == 0, api.ErrNotFound)
	return p
}

func (m *model) birth(op api.Op) {
	names(op.Path)
	if op.Kind == api.OpSymlink {
		halt.If(op.Other == "" || strings.IndexByte(op.Other, 0) >= 0, api.ErrPath)
		halt.If(len(op.Other) > 255, api.ErrLong)
	}
	p := m.resolve(op.Path, false)
	halt.If(p.Node != 0, api.ErrExists)
	switch op.Kind {
	case api.OpCreate:
		m.add(p, m.make(api.KFile, 0), api.KFile)
	case api.OpMkdir:
		halt.If(m.things[p.Parent].links == 64, api.ErrLinks)
		m.add(p, m.make(api.KDir, p.Parent), api.KDir)
		m.relink(p.Parent, 1)
	default:
		k := m.make(api.KLink, 0)
		m.add(p, k, api.KLink)
		m.writeAt(k, 0, []byte(op.Other))
	}
}

func (m *model) link(op api.Op) {
	halt.Got(walk.Split(op.Path))
	names(op.Other)
	file := m.found(op.Path, true)
	halt.If(file.Kind == api.KDir, api.ErrIsDir)
	p := m.resolve(op.Other, false)
	halt.If(p.Node != 0, api.ErrExists)
	halt.If(m.things[file.Node].links == 64, api.ErrLinks)
	m.add(p, file.Node, api.KFile)
	m.relink(file.Node, 1)
}

func (m *model) death(op api.Op) {
	names(op.Path)
	p := m.found(op.Path, false)
	if op.Kind == api.OpUnlink {
		halt.If(p.Kind == api.KDir, api.ErrIsDir)
		m.del(p)
		m.unname(p.Node)
		return
	}
	halt.If(p.Kind != api.KDir, api.ErrNotDir)
	halt.If(!m.empty(p.Node), api.ErrNotEmpty)
	m.del(p)
	delete(m.things, p.Node)
	m.relink(p.Parent, -1)
}

func (m *model) rename(op api.Op) {
	names(op.Path)
	names(op.Other)
	from := m.found(op.Path, false)
	to := m.resolve(op.Other, false)
	if from.Node == to.Node {
		return
	}
	isDir, moved := from.Kind == api.KDir, from.Parent != to.Parent
	halt.If(isDir && m.inside(to.Parent, from.Node), api.ErrInside)
	if to.Node != 0 {
		halt.If(isDir && to.Kind != api.KDir, api.ErrNotDir)
		halt.If(!isDir && to.Kind == api.KDir, api.ErrIsDir)
		halt.If(isDir && !m.empty(to.Node), api.ErrNotEmpty)
	}
	halt.If(isDir && to.Node == 0 && moved && m.things[to.Parent].links == 64, api.ErrLinks)
	m.del(from)
	if to.Node == 0 {
		m.add(to, from.Node, from.Kind)
	} else {
		m.change(to.Parent, func(x *thing) {
			for i := range x.slots {
				if x.slots[i].Node != 0 && x.slots[i].Name == to.Name {
					x.slots[i].Node, x.slots[i].Kind = from.Node, from.Kind
				}
			}
		})
		if isDir {
			delete(m.things, to.Node)
			m.relink(to.Parent, -1)
		} else {
			m.unname(to.Node)
		}
	}
	if isDir && moved {
		m.change(from.Node, func(x *thing) { x.parent = to.Parent })
		m.relink(from.Parent, -1)
		m.relink(to.Parent, 1)
	}
}

// meant is the node for which an operation is; file, if it must be none of a directory.
func (m *model) meant(op api.Op, file bool) int {
	k := op.Node
	if k > 0 {
		halt.If(m.held[k] == 0, api.ErrNotHeld)
	} else {
		k = m.found(op.Path, true).Node
	}
	halt.If(file && m.things[k].kind == api.KDir, api.ErrIsDir)
	return k
}

// path looks at the path of an operation that may be for a held node.
func path(op api.Op) {
	if op.Node <= 0 {
		halt.Got(walk.Split(op.Path))
	}
}

func (m *model) cut(op api.Op) {
	path(op)
	if op.Kind == api.OpTruncate {
		halt.If(op.N < 0, api.ErrArg)
		halt.If(op.N > 8459264, api.ErrBig)
		m.resize(m.meant(op, true), op.N)
		return
	}
	halt.If(op.Off < 0 || op.N < 0, api.ErrArg)
	m.wipe(m.meant(op, true), op.Off, op.N)
}

func (m *model) told(op api.Op) api.Reply {
	path(op)
	switch op.Kind {
	case api.OpStat:
		return m.stat(m.meant(op, false))
	case api.OpRuns:
		runs := m.runs(m.meant(op, true))
		return api.Reply{N: len(runs), Runs: runs}
	}
	halt.If(op.Off < 0 || op.N < 0, api.ErrArg)
	halt.If(op.N > 65536, api.ErrLong)
	data := m.read(m.meant(op, true), op.Off, op.N)
	return api.Reply{N: len(data), Data: data}
}

func (m *model) stat(k int) api.Reply {
	x := m.things[k]
	return api.Reply{Stat: api.Stat{Node: k, Kind: x.kind, Links: x.links, Size: x.size, Owned: x.owned()}}
}

func (m *model) named(op api.Op) api.Reply {
	p := m.found(op.Path, op.Kind == api.OpList)
	switch op.Kind {
	case api.OpLstat:
		return m.stat(p.Node)
	case api.OpList:
		halt.If(p.Kind != api.KDir, api.ErrNotDir)
		entries := m.entries(p.Node)
		return api.Reply{N: len(entries), Entries: entries}
	}
	halt.If(p.Kind != api.KLink, api.ErrNotLink)
	text := m.text(p.Node)
	return api.Reply{N: len(text), Text: text}
}

// write is done step by step: those ahead of the one that finds no room stay.
func (m *model) write(op api.Op) (reply api.Reply, steps []*model) {
	defer func() {
		if e := halt.Caught(recover(), unspoilt); e != api.OK {
			reply.Err = e
		}
	}()
	path(op)
	halt.If(op.Off < 0, api.ErrArg)
	halt.If(len(op.Data) > 65536, api.ErrLong)
	halt.If(op.Off > 8459264 || op.Off+len(op.Data) > 8459264, api.ErrBig)
	k := m.meant(op, true)
	for at := 0; at < len(op.Data); {
		end := at + 1
		for end < len(op.Data) && (op.Off+end)%4096 != 0 {
			end++
		}
		m = m.clone()
		m.writeAt(k, op.Off+at, op.Data[at:end])
		steps = append(steps, m)
		reply.N, at = end, end
	}
	return reply, steps
}
