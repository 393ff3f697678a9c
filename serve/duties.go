package serve

import "vellum/api"

// duty is what is done for one kind of call. What it replies with ErrWaits is not answered yet.
type duty struct {
	do func(*session, api.Call) api.Reply
}

// dutyOf is what is done for that kind. In the place of kind 0 stands what is done for a kind that is none.
func dutyOf(kind int) duty {
	table := [...]duty{
		{(*session).doNone},
		api.CDo:     {(*session).doOp},
		api.COpen:   {(*session).doOpen},
		api.CRead:   {(*session).doRead},
		api.CWrite:  {(*session).doWrite},
		api.CSeek:   {(*session).doSeek},
		api.CStat:   {(*session).doStat},
		api.CClose:  {(*session).doClose},
		api.CLock:   {(*session).doLock},
		api.CTry:    {(*session).doTry},
		api.CUnlock: {(*session).doUnlock},
		api.CSync:   {(*session).doSync},
	}
	if kind < 0 || kind >= len(table) {
		kind = 0
	}
	return table[kind]
}

func (s *session) doNone(api.Call) api.Reply { return api.Reply{Err: api.ErrOp} }

// doOp is for paths alone: a held node might be one of another session.
func (s *session) doOp(c api.Call) api.Reply {
	c.Op.Node = 0
	return s.hall.fs.Do(c.Op)
}

// doOpen asks at once which file it is: later that might have been released beside the desk. Where the file system has died with the Open the Stat is refused, but then nobody will have a lock any more.
func (s *session) doOpen(c api.Call) api.Reply {
	handle, e := s.desk.Open(c.Path, c.Mode)
	if e == api.OK {
		stat, _ := s.desk.Stat(handle)
		s.open[handle-1] = opened{node: stat.Node, mode: c.Mode}
	}
	return api.Reply{Err: e, N: handle}
}

func (s *session) doRead(c api.Call) api.Reply {
	data, e := s.desk.Read(c.Handle, c.N)
	return api.Reply{Err: e, N: len(data), Data: data}
}

func (s *session) doWrite(c api.Call) api.Reply {
	n, e := s.desk.Write(c.Handle, c.Data)
	return api.Reply{Err: e, N: n}
}

func (s *session) doSeek(c api.Call) api.Reply {
	at, e := s.desk.Seek(c.Handle, c.Off, c.N)
	return api.Reply{Err: e, N: at}
}

func (s *session) doStat(c api.Call) api.Reply {
	stat, e := s.desk.Stat(c.Handle)
	return api.Reply{Err: e, Stat: stat}
}

// doClose gives the locks up ahead of the Close, which the disk may refuse.
func (s *session) doClose(c api.Call) api.Reply {
	o, e := s.handleOf(c.Handle)
	if e != api.OK {
		return api.Reply{Err: e}
	}
	s.hall.locks = without(s.hall.locks, s.lockOn(o.node, 0, api.MaxFile))
	return api.Reply{Err: s.close(c.Handle)}
}

func (s *session) doSync(api.Call) api.Reply { return api.Reply{Err: s.hall.fs.Sync()} }
