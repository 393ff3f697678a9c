package disk_test

import (
	"bytes"
	"strconv"
	"strings"
	"testing"

	"vellum/api"
	"vellum/disk"
)

// model is the disk as the chapter's words have it: one list of pending writes in the order in which they came.
type model struct {
	image   [][]byte
	pending []write
	fused   bool
	left    int
	life    int
	counts  api.Counts
}

type write struct {
	at   int
	data []byte
}

func newModel(sectors int) *model {
	m := &model{life: 1}
	for range sectors {
		m.image = append(m.image, full(0))
	}
	return m
}

func (m *model) burnt() bool { return m.fused && m.left == 0 }

func (m *model) candidates(at int) [][]byte {
	out := [][]byte{m.image[at]}
	for _, w := range m.pending {
		if w.at == at {
			out = append(out, w.data)
		}
	}
	return out
}

func (m *model) read(at int) ([]byte, api.Errno) {
	if m.burnt() {
		return nil, api.ErrDead
	}
	if at < 0 || at >= len(m.image) {
		m.counts.Refused++
		return nil, api.ErrRange
	}
	m.counts.Reads++
	all := m.candidates(at)
	return all[len(all)-1], api.OK
}

func (m *model) write(at int, data []byte) api.Errno {
	switch {
	case m.burnt():
		return api.ErrDead
	case at < 0 || at >= len(m.image):
		m.counts.Refused++
		return api.ErrRange
	case len(data) != 512:
		m.counts.Refused++
		return api.ErrLength
	}
	m.pending = append(m.pending, write{at, data})
	m.counts.Writes++
	m.left--
	return api.OK
}

func (m *model) flush() api.Errno {
	if m.burnt() {
		return api.ErrDead
	}
	for _, w := range m.pending {
		m.image[w.at] = w.data
	}
	m.pending = nil
	m.counts.Flushes++
	m.left--
	return api.OK
}

func (m *model) fuse(calls int) {
	if !m.burnt() {
		m.fused, m.left = calls >= 0, calls
	}
}

func (m *model) crash(picks []api.Pick) {
	i := 0
	for at := range m.image {
		all := m.candidates(at)
		if len(all) == 1 {
			continue
		}
		p := api.Pick{}
		if len(picks) > 0 {
			p = picks[i%len(picks)]
		}
		i++
		var made []byte
		for j := range 512 {
			from := p.B
			if j < max(p.Cut, 0)%513 {
				from = p.A
			}
			made = append(made, all[max(from, 0)%len(all)][j])
		}
		m.image[at] = made
	}
	m.pending, m.fused = nil, false
	m.life++
}

// act is one call, played on both; it tells whether they answered alike.
type act struct {
	name string
	play func(d *disk.Disk, m *model) bool
}

func reading(at int) act {
	return act{"read " + strconv.Itoa(at), func(d *disk.Disk, m *model) bool {
		got, e := d.Read(at)
		want, f := m.read(at)
		return e == f && bytes.Equal(got, want)
	}}
}

func writing(at int, data []byte) act {
	return act{"write " + strconv.Itoa(at) + " " + strconv.Itoa(len(data)), func(d *disk.Disk, m *model) bool {
		return d.Write(at, data) == m.write(at, data)
	}}
}

func fusing(calls int) act {
	return act{"fuse " + strconv.Itoa(calls), func(d *disk.Disk, m *model) bool {
		d.Fuse(calls)
		m.fuse(calls)
		return true
	}}
}

func crashing(name string, picks ...api.Pick) act {
	return act{"crash " + name, func(d *disk.Disk, m *model) bool {
		d.Crash(picks)
		m.crash(picks)
		return true
	}}
}

func acts() []act {
	return []act{
		writing(0, full('x')), writing(1, full('y')), writing(1, full('z')),
		{"flush", func(d *disk.Disk, m *model) bool { return d.Flush() == m.flush() }},
		crashing("all lost"), crashing("all kept", api.Pick{A: 1, B: 1}),
		crashing("torn", api.Pick{A: 2, B: 1, Cut: 5}, api.Pick{A: 1, B: 2, Cut: 500}),
		fusing(0), fusing(1), fusing(2), fusing(-1),
		reading(1), reading(2), writing(2, nil), writing(0, full('x')[1:]),
		{"take", func(d *disk.Disk, m *model) bool { m.life++; return d.Take() == m.life }},
	}
}

func alike(d *disk.Disk, m *model) bool {
	counts := m.counts
	counts.Pending = len(m.pending)
	return d.Counts() == counts && d.Life() == m.life && d.Burnt() == m.burnt() && d.Sectors() == len(m.image) && bytes.Equal(d.Image(), bytes.Join(m.image, nil))
}

func playAlike(t *testing.T, sectors int, script []act) {
	t.Helper()
	d, m := fresh(t, sectors), newModel(sectors)
	var told []string
	for _, a := range script {
		told = append(told, a.name)
		if !a.play(d, m) || !alike(d, m) {
			t.Fatalf("not as the model: %s", strings.Join(told, "; "))
		}
	}
}

// P101 to P112: every script of four calls, and what each leaves.
func TestAllShortScripts(t *testing.T) {
	all := acts()
	for _, a := range all {
		for _, b := range all {
			for _, c := range all {
				for _, e := range all {
					playAlike(t, 2, []act{a, b, c, e})
				}
			}
		}
	}
}

// numbers tells a fixed row of numbers that looks like none.
func numbers(seed uint32) func(below int) int {
	return func(below int) int {
		seed = seed*1664525 + 1013904223
		return int(seed>>8) % below
	}
}

// P101 to P112: long scripts over more sectors, with many pending writes of each.
func TestLongScripts(t *testing.T) {
	for seed := range uint32(300) {
		next := numbers(seed)
		var script []act
		for range 120 {
			switch next(16) {
			case 0:
				script = append(script, crashing("many", somePicks(next)...))
			case 1:
				script = append(script, fusing(next(40)-4))
			case 2:
				all := acts()
				script = append(script, all[next(len(all))])
			case 3, 4, 5:
				script = append(script, reading(next(8)-1))
			default:
				script = append(script, writing(next(8)-1, full(byte(next(256)))))
			}
		}
		playAlike(t, 6, script)
	}
}

func somePicks(next func(below int) int) []api.Pick {
	picks := make([]api.Pick, next(5))
	for i := range picks {
		picks[i] = api.Pick{A: next(9) - 2, B: next(9) - 2, Cut: next(1100) - 40}
	}
	return picks
}
