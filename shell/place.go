package shell

import (
	"vellum/api"
	"vellum/disk"
	"vellum/fs"
	"vellum/handle"
)

// The commands on the disk, and on the file system as a whole.

func (s *session) newDisk(given arguments) string {
	d, e := disk.New(given.numbers[0])
	if e == api.OK {
		s.disk = d
		s.use(nil)
	}
	return answered(e)
}

func (s *session) fuse(given arguments) string {
	s.disk.Fuse(given.numbers[0])
	return answered(api.OK)
}

func (s *session) cut(given arguments) string {
	var picks []api.Pick
	for n := given.numbers; len(n) > 0; n = n[3:] {
		picks = append(picks, api.Pick{A: n[0], B: n[1], Cut: n[2]})
	}
	s.disk.Crash(picks)
	return answered(api.OK)
}

func (s *session) mkfs(given arguments) string {
	return answered(fs.Mkfs(s.disk, given.numbers[0], given.numbers[1]))
}

func (s *session) mount(arguments) string {
	f, e := fs.Mount(s.disk)
	s.use(f)
	return answered(e)
}

// use takes a file system, or none, in the stead of the one that was at hand.
func (s *session) use(f *fs.FS) {
	s.fs, s.desk = f, nil
	if f != nil {
		s.desk = handle.New(f)
	}
}

func (s *session) sync(arguments) string { return answered(s.fs.Sync()) }

func (s *session) checkpoint(arguments) string { return answered(s.fs.Checkpoint()) }

func (s *session) space(arguments) string {
	blocks, nodes, e := s.fs.Space()
	return answered(e, numbers(blocks, nodes)...)
}

func (s *session) check(given arguments) string {
	r, e := s.fs.Check(given.numbers[0])
	if e == api.OK && r.Phase != 0 {
		return told(api.ErrCorrupt, numbers(r.Phase, len(r.Faults))...)
	}
	return answered(e, numbers(r.Files, r.Dirs, r.Links, r.Orphans, r.Used)...)
}
