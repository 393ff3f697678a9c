package serve_test

import (
	"slices"

	"vellum/api"
	"vellum/disk"
	"vellum/fs"
	"vellum/handle"
)

// few: in the drawn tests a range begins and ends at one of the first bytes, or at one of the last three, or at the end. So a file is a row of few cells, and what a session holds on it is a mode for each of them.
const (
	few  = 20
	tops = 3
	row  = few + 1 + tops
)

// cellAt is the cell that begins with this byte.
func cellAt(byte int) int {
	switch {
	case byte <= few:
		return byte
	case byte >= maxFile-tops:
		return few + 1 + byte - (maxFile - tops)
	}
	panic("no edge of a cell")
}

// edge is the byte with which a cell begins.
func edge(cell int) int {
	if cell <= few {
		return cell
	}
	return maxFile - tops + cell - few - 1
}

// words is a hall by the chapter's words, one by one. What a desk does is left to desks.
type words struct {
	d     *disk.Disk
	life  int
	f     *fs.FS
	seats []*seat
	turns int
}

// seat is a session: what it holds is told for each node by a mode for each cell.
type seat struct {
	desk  *handle.Desk
	files map[int]file
	calls []api.Call
	had   bool // the first call has had a turn
	held  map[int][row]int
}

// file is an open handle.
type file struct{ node, mode int }

func newWords(d *disk.Disk, f *fs.FS, sessions int) *words {
	w := &words{d: d, life: d.Life(), f: f}
	for range sessions {
		w.seats = append(w.seats, &seat{desk: handle.New(f), files: map[int]file{}, held: map[int][row]int{}})
	}
	return w
}

func (w *words) dead() bool { return w.d.Burnt() || w.d.Life() != w.life }

func (w *words) none(session int) bool { return session < 0 || session >= len(w.seats) }

func (w *words) ask(session int, c api.Call) api.Errno {
	switch {
	case w.dead():
		return api.ErrDead
	case w.none(session):
		return api.ErrSession
	case len(w.seats[session].calls) == 256:
		return api.ErrMany
	}
	w.seats[session].calls = append(w.seats[session].calls, c)
	return api.OK
}

func (w *words) turn(session int) (api.Answer, api.Errno) {
	switch {
	case w.dead():
		return api.Answer{}, api.ErrDead
	case w.none(session):
		return api.Answer{}, api.ErrSession
	case len(w.seats[session].calls) == 0:
		return api.Answer{}, api.ErrEnded
	}
	s := w.seats[session]
	reply, waits := w.done(session, s.calls[0])
	switch {
	case reply.Err == api.ErrDead:
		return api.Answer{}, api.ErrDead
	case waits:
		s.had = true
		return api.Answer{}, api.ErrWaits
	}
	s.calls, s.had = s.calls[1:], false
	w.turns++
	return api.Answer{Turn: w.turns, Reply: reply}, api.OK
}

func (w *words) leave(session int) api.Errno {
	switch {
	case w.dead():
		return api.ErrDead
	case w.none(session):
		return api.ErrSession
	}
	s := w.seats[session]
	s.calls, s.had = nil, false
	clear(s.held)
	for h := 1; h <= 16; h++ {
		if _, is := s.files[h]; is {
			delete(s.files, h)
			if s.desk.Close(h) == api.ErrDead {
				return api.ErrDead
			}
		}
	}
	return api.OK
}

// done is the reply of a call, or that it waits.
func (w *words) done(session int, c api.Call) (r api.Reply, waits bool) {
	s := w.seats[session]
	switch c.Kind {
	case 1:
		op := c.Op
		op.Node = 0
		return w.f.Do(op), false
	case 2:
		r.N, r.Err = s.desk.Open(c.Path, c.Mode)
		if r.Err == api.OK {
			s.files[r.N] = file{w.f.Do(api.Op{Kind: api.OpStat, Path: c.Path}).Stat.Node, c.Mode}
		}
	case 3:
		r.Data, r.Err = s.desk.Read(c.Handle, c.N)
		r.N = len(r.Data)
	case 4:
		r.N, r.Err = s.desk.Write(c.Handle, c.Data)
	case 5:
		r.N, r.Err = s.desk.Seek(c.Handle, c.Off, c.N)
	case 6:
		r.Stat, r.Err = s.desk.Stat(c.Handle)
	case 7:
		if f, is := s.files[c.Handle]; is {
			delete(s.held, f.node)
			delete(s.files, c.Handle)
		}
		r.Err = s.desk.Close(c.Handle)
	case 8, 9:
		r.Err, waits = w.locked(session, c)
	case 10:
		r.Err = w.unlocked(session, c)
	case 11:
		r.Err = w.f.Sync()
	default:
		r.Err = api.ErrOp
	}
	return r, waits
}

// reach are the cells of a range, and what is wrong with it.
func reach(c api.Call) (from, to int, e api.Errno) {
	switch {
	case c.Off < 0:
		return 0, 0, api.ErrArg
	case c.N < 0:
		return 0, 0, api.ErrArg
	case c.Off >= maxFile:
		return 0, 0, api.ErrBig
	case c.N > maxFile-c.Off:
		return 0, 0, api.ErrBig
	case c.N == 0:
		return cellAt(c.Off), row, api.OK
	}
	return cellAt(c.Off), cellAt(c.Off + c.N), api.OK
}

func (w *words) locked(session int, c api.Call) (e api.Errno, waits bool) {
	f, is := w.seats[session].files[c.Handle]
	if !is {
		return api.ErrHandle, false
	}
	if c.Mode != shared && c.Mode != alone {
		return api.ErrArg, false
	}
	if _, _, e := reach(c); e != api.OK {
		return e, false
	}
	if c.Mode == shared && f.mode%2 == 0 || c.Mode == alone && f.mode/2%2 == 0 {
		return api.ErrMode, false
	}
	if rivals := w.rivals(session, c); len(rivals) > 0 {
		if c.Kind == 9 {
			return api.ErrBusy, false
		}
		ways := w.ways()
		for _, x := range rivals {
			if ways[x][session] {
				return api.ErrDeadlock, false
			}
		}
		return api.OK, true
	}
	return w.set(session, f.node, c, c.Mode), false
}

func (w *words) unlocked(session int, c api.Call) api.Errno {
	f, is := w.seats[session].files[c.Handle]
	if !is {
		return api.ErrHandle
	}
	if _, _, e := reach(c); e != api.OK {
		return e
	}
	return w.set(session, f.node, c, 0)
}

// set lets a session hold the cells of a range in a mode, 0 for none, unless there would be too many ranges.
func (w *words) set(session, node int, c api.Call, mode int) api.Errno {
	s := w.seats[session]
	was := s.held[node]
	now := was
	from, to, _ := reach(c)
	for i := from; i < to; i++ {
		now[i] = mode
	}
	if s.held[node] = now; len(w.locks()) > 64 {
		s.held[node] = was
		return api.ErrLocks
	}
	return api.OK
}

// rivals are the sessions with whose locks that of a call would conflict now.
func (w *words) rivals(session int, c api.Call) []int {
	node := w.seats[session].files[c.Handle].node
	from, to, _ := reach(c)
	var list []int
	for x, s := range w.seats {
		theirs := s.held[node]
		if x != session && slices.ContainsFunc(theirs[from:to], func(mode int) bool { return mode == alone || mode == shared && c.Mode == alone }) {
			list = append(list, x)
		}
	}
	return list
}

// ways says who waits for whom, directly or over others.
func (w *words) ways() (ways [8][8]bool) {
	for i, s := range w.seats {
		if s.had {
			for _, x := range w.rivals(i, s.calls[0]) {
				ways[i][x] = true
			}
		}
	}
	for over := range ways {
		for i := range ways {
			for x := range ways {
				ways[i][x] = ways[i][x] || ways[i][over] && ways[over][x]
			}
		}
	}
	return ways
}

// locks are all that are held: node by node, byte by byte, session by session.
func (w *words) locks() []api.Lock {
	var list []api.Lock
	for node := 1; node <= 24; node++ {
		var rows [8][row]int
		for session, s := range w.seats {
			rows[session] = s.held[node]
		}
		for cell := range row {
			for session := range rows {
				held := &rows[session]
				if held[cell] == 0 || cell > 0 && held[cell-1] == held[cell] {
					continue
				}
				end := cell
				for end < row && held[end] == held[cell] {
					end++
				}
				list = append(list, api.Lock{Node: node, From: edge(cell), To: edge(end), Mode: held[cell], Session: session})
			}
		}
	}
	return list
}

// run is a Run. It tells besides how many rounds of turns there were in which nothing was answered.
func (w *words) run(calls [][]api.Call, order []int) (answers [][]api.Answer, idle int, e api.Errno) {
	if w.dead() {
		return nil, 0, api.ErrDead
	}
	answers = make([][]api.Answer, len(calls))
	for i, list := range calls {
		w.seats[i].calls = list
	}
	one := func(session int) bool {
		if len(w.seats[session].calls) == 0 {
			return true
		}
		a, e := w.turn(session)
		if e == api.OK {
			answers[session] = append(answers[session], a)
			if len(w.seats[session].calls) == 0 {
				e = w.leave(session)
			}
		}
		return e != api.ErrDead
	}
	for _, x := range order {
		if x < 0 {
			x = 0
		}
		if !one(x % len(calls)) {
			return nil, 0, api.ErrDead
		}
	}
	for left := true; left && idle == 0; {
		was := w.turns
		left = false
		for session := range calls {
			if !one(session) {
				return nil, 0, api.ErrDead
			}
		}
		for _, s := range w.seats {
			left = left || len(s.calls) > 0
		}
		if left && w.turns == was {
			idle++
		}
	}
	return answers, idle, api.OK
}
