package shell_test

import (
	"fmt"
	"hash/crc32"
	"strings"

	"vellum/api"
	"vellum/disk"
	"vellum/dump"
	"vellum/fs"
	"vellum/handle"
)

func crc(b string) uint32 { return crc32.Checksum([]byte(b), crc32.MakeTable(crc32.Castagnoli)) }

// order is a command: its name, its texts and its numbers.
type order struct {
	name    string
	texts   []string
	numbers []int
}

// clerk does what orders say, by the chapter's words and the calls of the layers below, and tells the answers.
type clerk struct {
	d    *disk.Disk
	f    *fs.FS
	k    *handle.Desk
	tape []byte
}

// answer is the answer to an order that is a right command.
func (c *clerk) answer(o order) string {
	n := append(o.numbers, 0, 0, 0)
	t := append(o.texts, "", "")
	switch o.name {
	case "disk":
		d, e := disk.New(n[0])
		if e == api.OK {
			c.d, c.f, c.k = d, nil, nil
		}
		return e.Error()
	case "tape":
		c.tape = []byte(t[0])
		return "ok"
	case "items":
		items, e := dump.List(c.tape)
		return say(e, len(items))
	}
	if c.d == nil {
		return "ended"
	}
	switch o.name {
	case "fuse":
		c.d.Fuse(n[0])
		return "ok"
	case "cut":
		var picks []api.Pick
		for i := 0; i+2 < len(o.numbers); i += 3 {
			picks = append(picks, api.Pick{A: n[i], B: n[i+1], Cut: n[i+2]})
		}
		c.d.Crash(picks)
		return "ok"
	case "mkfs":
		return fs.Mkfs(c.d, n[0], n[1]).Error()
	case "mount":
		f, e := fs.Mount(c.d)
		c.f, c.k = nil, nil
		if e == api.OK {
			c.f, c.k = f, handle.New(f)
		}
		return e.Error()
	}
	if c.f == nil {
		return "ended"
	}
	if o.name == "read" && n[1] > 4096 || o.name == "get" && n[1] > 4096 {
		return "long"
	}
	if kind, is := kinds[o.name]; is {
		return c.operation(kind, t, n)
	}
	return c.other(o.name, t, n)
}

var kinds = map[string]int{
	"create": api.OpCreate, "mkdir": api.OpMkdir, "symlink": api.OpSymlink, "link": api.OpLink, "unlink": api.OpUnlink, "rmdir": api.OpRmdir, "rename": api.OpRename, "read": api.OpRead,
	"write": api.OpWrite, "truncate": api.OpTruncate, "punch": api.OpPunch, "stat": api.OpStat, "lstat": api.OpLstat, "list": api.OpList, "readlink": api.OpReadlink, "runs": api.OpRuns,
}

func (c *clerk) operation(kind int, t []string, n []int) string {
	op := api.Op{Kind: kind, Path: t[0], Other: t[1], Off: n[0], N: n[1]}
	switch kind {
	case api.OpSymlink:
		op.Path, op.Other = t[1], t[0]
	case api.OpTruncate:
		op.N = n[0]
	case api.OpWrite:
		op.Data = []byte(t[1])
	}
	r := c.f.Do(op)
	if kind == api.OpWrite && r.Err == api.ErrNoSpace {
		return fmt.Sprint("nospace ", r.N)
	}
	switch kind {
	case api.OpRead:
		return say(r.Err, quoteOf(r.Data))
	case api.OpWrite:
		return say(r.Err, r.N)
	case api.OpStat, api.OpLstat:
		return say(r.Err, statSaid(r.Stat))
	case api.OpReadlink:
		return say(r.Err, quoteOf([]byte(r.Text)))
	case api.OpList:
		var told []any
		for _, e := range r.Entries {
			told = append(told, quoteOf([]byte(e.Name)), e.Node, kindSaid(e.Kind), e.Slot)
		}
		return say(r.Err, told...)
	case api.OpRuns:
		var told []any
		for _, run := range r.Runs {
			told = append(told, fmt.Sprintf("%d-%d", run.From, run.To))
		}
		return say(r.Err, told...)
	}
	return say(r.Err)
}

func (c *clerk) other(name string, t []string, n []int) string {
	switch name {
	case "sync":
		return say(c.f.Sync())
	case "checkpoint":
		return say(c.f.Checkpoint())
	case "space":
		blocks, nodes, e := c.f.Space()
		return say(e, blocks, nodes)
	case "check":
		r, e := c.f.Check(n[0])
		if r.Phase != 0 {
			return fmt.Sprint("corrupt ", r.Phase, " ", len(r.Faults))
		}
		return say(e, r.Files, r.Dirs, r.Links, r.Orphans, r.Used)
	case "open":
		h, e := c.k.Open(t[0], n[0])
		return say(e, h)
	case "get":
		data, e := c.k.Read(n[0], n[1])
		return say(e, quoteOf(data))
	case "put":
		count, e := c.k.Write(n[0], []byte(t[0]))
		if e == api.ErrNoSpace {
			return fmt.Sprint("nospace ", count)
		}
		return say(e, count)
	case "seek":
		at, e := c.k.Seek(n[0], n[1], n[2])
		return say(e, at)
	case "fstat":
		s, e := c.k.Stat(n[0])
		return say(e, statSaid(s))
	case "close":
		return say(c.k.Close(n[0]))
	case "dump":
		archive, e := dump.Save(c.f)
		if e != api.OK {
			return say(e)
		}
		c.tape = archive
		return say(e, len(archive), crc(string(archive[:len(archive)-4])))
	case "restore":
		count, e := dump.Load(c.f, c.tape)
		return fmt.Sprint(e.Error(), " ", count)
	case "tree":
		var told []any
		e := c.tree("/", "/", 0, &told)
		return say(e, told...)
	}
	return "no such order: " + name
}

// tree tells what lies at a path, block by block; what lies in it has paths that begin with lead.
func (c *clerk) tree(path, lead string, slot int, told *[]any) api.Errno {
	r := c.f.Do(api.Op{Kind: api.OpLstat, Path: path})
	if r.Err != api.OK {
		return r.Err
	}
	content := "-"
	switch r.Stat.Kind {
	case api.KLink:
		content = quoteOf([]byte(c.f.Do(api.Op{Kind: api.OpReadlink, Path: path}).Text))
	case api.KFile:
		content = c.file(path)
	}
	*told = append(*told, quoteOf([]byte(path)), statSaid(r.Stat), slot, content)
	if r.Stat.Kind != api.KDir {
		return api.OK
	}
	for _, e := range c.f.Do(api.Op{Kind: api.OpList, Path: path}).Entries {
		if e := c.tree(lead+e.Name, lead+e.Name+"/", e.Slot, told); e != api.OK {
			return e
		}
	}
	return api.OK
}

func (c *clerk) file(path string) string {
	rows, data := "", ""
	for _, run := range c.f.Do(api.Op{Kind: api.OpRuns, Path: path}).Runs {
		rows += fmt.Sprintf(",%d-%d", run.From, run.To)
		for i := run.From; i < run.To; i++ {
			block := string(c.f.Do(api.Op{Kind: api.OpRead, Path: path, Off: 512 * i, N: 512}).Data)
			data += block + strings.Repeat("\x00", 512-len(block))
		}
	}
	if rows == "" {
		rows = ",-"
	}
	return fmt.Sprintf("%s:%d", rows[1:], crc(data))
}

func say(e api.Errno, told ...any) string {
	text := e.Error()
	if e == api.OK {
		for _, x := range told {
			text += " " + fmt.Sprint(x)
		}
	}
	return text
}

func statSaid(s api.Stat) string {
	return fmt.Sprint(s.Node, " ", kindSaid(s.Kind), " ", s.Links, " ", s.Size, " ", s.Owned)
}

func kindSaid(kind int) string {
	return map[int]string{api.KFile: "file", api.KDir: "dir", api.KLink: "link"}[kind]
}
