package find_test

import (
	"bytes"
	"slices"
	"strings"
	"testing"

	"vellum/api"
	"vellum/find"
	"vellum/site"
	"vellum/trial"
)

// grown is a drawn tree, and one who asks of it.
func grown(t *testing.T, d *trial.Dice) (*site.Ground, asker) {
	t.Helper()
	g := site.Fresh(t, api.Super{Sectors: 250, Log: 40, Nodes: 48})
	p := site.Planter{Dice: d}
	for range 30 + d.Below(100) {
		g.F.Do(p.Op())
	}
	if d.Below(2) == 0 {
		g.All(site.Mkdir("/deep"), site.Mkdir("/deep/x y"), site.Symlink("/deep/l", "x y"), site.Create("/deep/x y/\xff"), site.Write("/deep/x y/\xff", 0, "hello"))
	}
	return g, asker{d, textsOf(spotsOf(g.F, spot{"/", 0, g.F.Do(site.Stat("/")).Stat}))}
}

// Drawn queries over drawn trees, from anywhere, by the chapter's words.
func TestP1907Drawn(t *testing.T) {
	t.Parallel()
	d := trial.NewDice(1907)
	answers := map[api.Errno]int{}
	some, most := 0, 0
	for range 60 {
		g, ask := grown(t, d)
		whole, _ := runs(g, "/", "all")
		for range 40 {
			path := trial.One(d, "/", "/", ask.path())
			got, e := runs(g, path, ask.query())
			answers[e]++
			if len(got) > 0 {
				some++
			}
			if len(got) > 0 && len(got) < len(whole) {
				most++
			}
		}
	}
	if answers[api.OK] < 1500 || answers[api.ErrNotFound] < 50 || answers[api.ErrNotDir] < 50 || some < 1000 || most < 500 {
		t.Errorf("the draw is thin: %v, %d, %d", answers, some, most)
	}
}

// What is printed holds where the query does.
func TestP1912(t *testing.T) {
	t.Parallel()
	d := trial.NewDice(1912)
	for range 20 {
		g, ask := grown(t, d)
		for range 50 {
			query := ask.query()
			text, e := prints(t, query)
			if e != api.OK || len(text) > 1023 {
				continue
			}
			a, _ := find.Run(g.F, "/", query)
			if b, e := find.Run(g.F, "/", text); !slices.Equal(a, b) || e != api.OK {
				t.Fatalf("P1912: Run(%q): %q; Run(%q): %q, %v", query, a, text, b, e)
			}
		}
	}
}

// told is a Run of words from the root.
func told(g *site.Ground, words ...[]string) []string {
	g.T.Helper()
	query := plain(slices.Concat(words...)...)
	got, e := find.Run(g.F, "/", query)
	if e != api.OK {
		g.T.Fatalf("Run(%q): %v", query, e)
	}
	return got
}

// where are the texts, of all, of which it is said.
func where(all []string, is func(text string) bool) []string {
	var list []string
	for _, text := range all {
		if is(text) {
			list = append(list, text)
		}
	}
	return list
}

func TestP1913(t *testing.T) {
	t.Parallel()
	d := trial.NewDice(1913)
	both, either := 0, 0
	for range 25 {
		g, ask := grown(t, d)
		whole := told(g, []string{"all"})
		for range 40 {
			u, v := ask.unit(1+d.Below(2)), ask.unit(1)
			if len(plain(slices.Concat(u, v)...)) > 900 {
				continue
			}
			runU, runV := told(g, u), told(g, v)
			inU := func(text string) bool { return slices.Contains(runU, text) }
			inV := func(text string) bool { return slices.Contains(runV, text) }
			and, or := []string{"and"}, []string{"or"}
			for _, c := range []struct {
				what      string
				got, want []string
			}{
				{"not U", told(g, []string{"not"}, u), where(whole, func(text string) bool { return !inU(text) })},
				{"not not U", told(g, []string{"not", "not"}, u), runU},
				{"( U )", told(g, bracketed(u)), runU},
				{"( ( U ) )", told(g, bracketed(bracketed(u))), runU},
				{"U and V", told(g, u, and, v), where(whole, func(text string) bool { return inU(text) && inV(text) })},
				{"V and U", told(g, v, and, u), where(whole, func(text string) bool { return inU(text) && inV(text) })},
				{"U or V", told(g, u, or, v), where(whole, func(text string) bool { return inU(text) || inV(text) })},
				{"not ( U or V )", told(g, []string{"not"}, bracketed(slices.Concat(u, or, v))), where(whole, func(text string) bool { return !inU(text) && !inV(text) })},
				{"( U ) and not ( V )", told(g, bracketed(u), and, []string{"not"}, bracketed(v)), where(whole, func(text string) bool { return inU(text) && !inV(text) })},
				{"U or V and V", told(g, u, or, v, and, v), where(whole, func(text string) bool { return inU(text) || inV(text) })},
				{"U and V or U", told(g, u, and, v, or, u), runU},
			} {
				if !slices.Equal(c.got, c.want) {
					t.Fatalf("P1913: %s of %q and %q: %q, want %q", c.what, u, v, c.got, c.want)
				}
			}
			both += min(1, len(where(runU, inV)))
			either += min(1, len(where(runU, func(text string) bool { return !inV(text) })))
		}
	}
	if both < 100 || either < 100 {
		t.Errorf("the draw is thin: %d, %d", both, either)
	}
}

func TestP1914(t *testing.T) {
	t.Parallel()
	d := trial.NewDice(1914)
	some := 0
	for range 25 {
		g, ask := grown(t, d)
		dirs := told(g, []string{"kind", "dir"})
		for range 30 {
			query := ask.query()
			if strings.Contains(query, "depth") {
				continue
			}
			whole, _ := find.Run(g.F, "/", query)
			for _, dir := range dirs {
				want := where(whole, func(text string) bool {
					return dir == "/" || text == dir || strings.HasPrefix(text, dir+"/")
				})
				if got, e := find.Run(g.F, dir, query); !slices.Equal(got, want) || e != api.OK {
					t.Fatalf("P1914: Run(%q, %q): %q, %v, want %q", dir, query, got, e, want)
				}
				some += min(1, len(want))
			}
		}
	}
	if some < 500 {
		t.Errorf("the draw is thin: %d", some)
	}
}

// Any bytes below a file system that is mounted: every call ends, whatever it tells.
func TestP9Junk(t *testing.T) {
	t.Parallel()
	d := trial.NewDice(1999)
	broken := 0
	for range 150 {
		g, ask := grown(t, d)
		trial.Is(t, "Checkpoint", g.F.Checkpoint(), api.OK)
		image := g.D.Image()
		for range 1 + d.Below(4) {
			block := 2 + d.Below(trial.One(d, 4, 20, 200))
			data := bytes.Clone(image[512*(43+block):][:512])
			for range 1 + d.Below(3) {
				data[d.Below(512)] ^= byte(1 + d.Below(255))
			}
			if d.Below(4) == 0 {
				data = d.Bytes(512)
			}
			trial.Is(t, "Write", g.D.Write(43+block, data), api.OK)
		}
		for range 6 {
			query := trial.One(d, "all", ask.query())
			seq, e := find.Each(g.F, "/", query)
			if e != api.OK {
				broken++
				continue
			}
			n := 0
			for range seq {
				if n++; n > 1000 {
					break
				}
			}
			if _, e := find.Tally(g.F, ask.path(), query); e == api.ErrDead {
				t.Fatalf("P9: Tally over junk: %v", e)
			}
		}
	}
	if broken < 20 {
		t.Errorf("the draw is thin: %d", broken)
	}
}
