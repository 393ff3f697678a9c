package walk_test

import (
	"fmt"
	"strings"
	"testing"

	"vellum/api"
	"vellum/trial"
	"vellum/walk"
)

// cut says which parts a text has, or the error of the first one that is not right.
func cut(text string) ([]string, api.Errno) {
	var list []string
	for _, part := range strings.Split(text, "/") {
		switch {
		case part == "" || part == ".":
			continue
		case len(part) > 54:
			return nil, api.ErrLong
		case strings.Contains(part, "\x00"):
			return nil, api.ErrName
		}
		list = append(list, part)
	}
	return list, api.OK
}

// spot is a name in a directory; without a name it is the node itself.
type spot struct {
	number int
	name   string
}

// thing is what lies there: an entry's node and kind, or a node's kind, parent and text.
type thing struct {
	kind, node, parent int
	text               string
}

// plain says the chapter's words over a map of all that lies in a tree.
type plain struct {
	nodes int
	at    map[spot]thing
}

func (m plain) kind(number int) int { return m.at[spot{number, ""}].kind }

// isDir is the error of a directory that is asked for.
func (m plain) isDir(number int) api.Errno {
	switch m.kind(number) {
	case api.KDir:
		return api.OK
	case api.KNone:
		return api.ErrNode
	}
	return api.ErrNotDir
}

func (m plain) counts(numbers ...int) bool {
	for _, number := range numbers {
		if number < 1 || number > m.nodes {
			return false
		}
	}
	return true
}

// front cuts off the first part of what is left to go; there is none where it is "".
func front(left string) (part, rest string) {
	for part == "" && left != "" {
		part, left, _ = strings.Cut(left, "/")
		if part == "." {
			part = ""
		}
	}
	return part, left
}

// resolve keeps what is left to go as one text.
func (m plain) resolve(path string, follow bool) (api.Place, api.Errno) {
	if len(path) > 1023 {
		return api.Place{}, api.ErrLong
	}
	if path == "" || path[0] != '/' {
		return api.Place{}, api.ErrPath
	}
	if _, e := cut(path); e != api.OK {
		return api.Place{}, e
	}
	if e := m.isDir(1); e != api.OK {
		return api.Place{}, e
	}
	return m.along(1, path, follow, 0)
}

func (m plain) along(in int, path string, follow bool, hops int) (api.Place, api.Errno) {
	part, left := front(path)
	if part == "" {
		return nameless(in), api.OK
	}
	if part == ".." {
		parent := m.at[spot{in, ""}].parent
		if in == 1 {
			parent = 1
		}
		if m.isDir(parent) != api.OK {
			return api.Place{}, api.ErrCorrupt
		}
		return m.along(parent, left, follow, hops)
	}
	entry := m.at[spot{in, part}]
	next, _ := front(left)
	if next == "" && (entry.kind != api.KLink || !follow) {
		return place(in, part, entry.node, entry.kind), api.OK
	}
	switch entry.kind {
	case api.KNone:
		return api.Place{}, api.ErrNotFound
	case api.KFile:
		return api.Place{}, api.ErrNotDir
	case api.KDir:
		if m.isDir(entry.node) != api.OK {
			return api.Place{}, api.ErrCorrupt
		}
		return m.along(entry.node, left, follow, hops)
	}
	if hops == 8 {
		return api.Place{}, api.ErrLoop
	}
	if m.kind(entry.node) != api.KLink {
		return api.Place{}, api.ErrCorrupt
	}
	text := m.at[spot{entry.node, ""}].text
	if text == "" {
		return api.Place{}, api.ErrPath
	}
	if len(text) > 255 {
		return api.Place{}, api.ErrLong
	}
	if _, e := cut(text); e != api.OK {
		return api.Place{}, e
	}
	if text[0] == '/' {
		in = 1
	}
	return m.along(in, text+"/"+left, follow, hops+1)
}

func (m plain) inside(number, in int) (bool, api.Errno) {
	if !m.counts(number, in) {
		return false, api.ErrRange
	}
	for _, asked := range []int{number, in} {
		if e := m.isDir(asked); e != api.OK {
			return false, e
		}
	}
	for range m.nodes + 1 {
		if number == in {
			return true, api.OK
		}
		if number == 1 {
			return false, api.OK
		}
		number = m.at[spot{number, ""}].parent
		if m.isDir(number) != api.OK {
			break
		}
	}
	return false, api.ErrCorrupt
}

func (m plain) path(number int) (string, api.Errno) {
	if !m.counts(number) {
		return "", api.ErrRange
	}
	if e := m.isDir(number); e != api.OK {
		return "", e
	}
	path := ""
	for range m.nodes + 1 {
		if number == 1 {
			return "/" + strings.TrimPrefix(path, "/"), api.OK
		}
		parent := m.at[spot{number, ""}].parent
		if m.isDir(parent) != api.OK {
			break
		}
		name := ""
		for at, entry := range m.at {
			if at.number == parent && at.name != "" && entry.node == number && (name == "" || at.name < name) {
				name = at.name
			}
		}
		if name == "" {
			return "", api.ErrNotFound
		}
		path = "/" + name + path
		number = parent
	}
	return "", api.ErrCorrupt
}

// keeper changes a tree, as it should be and otherwise, and remembers what lies in it.
type keeper struct {
	trial.Memory[*walk.Walk, spot, thing]
	t       *testing.T
	nodes   int
	answers map[string]int // how often each was given, by the call and the error or the kind
}

func newKeeper(t *testing.T, form api.Super, dice *trial.Dice, answers map[string]int) *keeper {
	t.Helper()
	k := &keeper{t: t, nodes: form.Nodes, answers: answers}
	k.T, k.Dice, k.On = t, dice, on
	r := bare(t, form)
	is(t, "Abort", r.Abort(), api.OK)
	is(t, "Sync", r.s.Sync(), api.OK)
	k.Start(r.d, r.s)
	k.make(api.KDir, 1)
	k.Commit()
	return k
}

func (k *keeper) model() plain { return plain{k.nodes, k.Now} }

// make tells the number of the new node: 0, if there is no room for one.
func (k *keeper) make(kind, parent int) int {
	k.t.Helper()
	number, e := k.View.Make(kind, parent)
	if !k.Let("Make", e) {
		return 0
	}
	k.Now[spot{number, ""}] = thing{kind: kind, parent: parent}
	return number
}

// names lets a name in a directory say that node and kind, whether it was there before or not.
func (k *keeper) names(in int, name string, number, kind int) {
	k.t.Helper()
	change, what := k.View.Add, "Add"
	if _, there := k.Now[spot{in, name}]; there {
		change, what = k.View.Swap, "Swap"
	}
	if k.Let(what, change(in, name, number, kind)) {
		k.Now[spot{in, name}] = thing{kind: kind, node: number}
	}
}

// writes gives a link another text.
func (k *keeper) writes(number int, text string) {
	k.t.Helper()
	if k.Let("Resize", k.View.Resize(number, 0)) && k.Let("WriteAt", k.View.WriteAt(number, 0, []byte(text))) {
		k.Now[spot{number, ""}] = thing{kind: api.KLink, text: text}
	}
}

// hangs gives a directory another parent.
func (k *keeper) hangs(number, parent int) {
	k.t.Helper()
	n, e := k.View.Load(number)
	is(k.t, "Load", e, api.OK)
	n.Parent = parent
	if k.Let("Save", k.View.Save(number, n)) {
		k.Now[spot{number, ""}] = thing{kind: api.KDir, parent: parent}
	}
}

// frees lets a node go with all that lies in it; its names stay.
func (k *keeper) frees(number int) {
	k.t.Helper()
	if k.Let("Resize", k.View.Resize(number, 0)) && k.Let("Free", k.View.Free(number)) {
		for at := range k.Now {
			if at.number == number {
				delete(k.Now, at)
			}
		}
	}
}

// some draws a node of that kind: 0, if there is none.
func (k *keeper) some(kind int) int {
	k.t.Helper()
	list, e := k.View.All(kind)
	is(k.t, "All", e, api.OK)
	if len(list) == 0 {
		return 0
	}
	return trial.One(k.Dice, list...)
}

func (k *keeper) name() string {
	return trial.One(k.Dice, "a", "b", "c", "d", "e\xcc", strings.Repeat("n", 54))
}

// text draws parts with slashes between them; now and then one that may not be.
func (k *keeper) text() string {
	d := k.Dice
	if d.Below(12) == 0 {
		return trial.One(d, "", "\x00", "a/"+strings.Repeat("x", 55), strings.Repeat("./", 128), strings.Repeat("./", 127)+"a", "a/\x00/"+strings.Repeat("x", 55))
	}
	text := trial.One(d, "", "", "/", "//")
	for range 1 + d.Below(4) {
		text += trial.One(d, k.name(), k.name(), k.name(), k.name(), "..", ".", "") + trial.One(d, "/", "/", "/", "//")
	}
	return trial.One(d, text, strings.TrimSuffix(text, "/"))
}

// grow makes a node with a name, as it should be.
func (k *keeper) grow() {
	k.t.Helper()
	in, name := k.some(api.KDir), k.name()
	if _, there := k.Now[spot{in, name}]; there || in == 0 {
		return
	}
	kind := trial.One(k.Dice, api.KFile, api.KDir, api.KDir, api.KLink, api.KLink)
	parent := 0
	if kind == api.KDir {
		parent = in
	}
	number := k.make(kind, parent)
	if number == 0 {
		return
	}
	if kind == api.KLink {
		k.writes(number, k.text())
	}
	if k.model().kind(number) == kind {
		k.names(in, name, number, kind)
	}
}

// change makes one drawn change.
func (k *keeper) change() {
	k.t.Helper()
	d := k.Dice
	in, link := k.some(api.KDir), k.some(api.KLink)
	switch what := d.Below(40); {
	case what < 24 || in == 0:
		if in == 0 || d.Below(30) == 0 {
			k.make(trial.One(d, api.KFile, api.KLink), 0)
			k.make(api.KDir, 1)
			return
		}
		k.grow()
	case what < 29:
		if number := k.some(0); d.Below(4) > 0 { // one more name
			k.names(in, k.name(), number, k.model().kind(number))
		} else {
			k.names(in, k.name(), 1+d.Below(k.nodes), 1+d.Below(3))
		}
	case what < 32:
		if name := k.name(); k.Now[spot{in, name}] != (thing{}) && k.Let("Del", k.View.Del(in, name)) {
			delete(k.Now, spot{in, name})
		}
	case what < 35 && link > 0:
		k.writes(link, k.text())
	case what < 38:
		k.hangs(in, trial.One(d, k.some(api.KDir), k.some(api.KDir), k.some(0), 1+d.Below(k.nodes), k.nodes+1, 1024))
	default:
		if number := k.some(0); number != 1 || d.Below(5) == 0 {
			k.frees(number)
		}
	}
}

func (k *keeper) step() {
	k.t.Helper()
	switch what := k.Dice.Below(30); {
	case what < 22:
		k.change()
	case what < 27:
		k.Commit()
	case what < 29:
		k.Abort()
	default:
		k.Cut()
	}
}

// ready says whether a call is to be made of which the model answers this. One that spoils is not made often, and not where it would let something be forgotten.
func (k *keeper) ready(want api.Errno) bool {
	k.t.Helper()
	if want != api.ErrCorrupt {
		return true
	}
	if k.Dice.Below(20) > 0 {
		return false
	}
	k.Commit()
	return true
}

// done counts an answer, and goes on where it has spoilt the transaction.
func (k *keeper) done(what string, e api.Errno) {
	k.t.Helper()
	k.answers[what+" "+e.Error()]++
	if e == api.ErrCorrupt {
		asks(k.t, k.View, api.ErrCorrupt)
		k.Abort()
	}
	is(k.t, "State", k.View.State(), api.OK)
}

func (k *keeper) resolve(path string, follow bool) {
	k.t.Helper()
	want, wantE := k.model().resolve(path, follow)
	if !k.ready(wantE) {
		return
	}
	got, e := k.View.Resolve(path, follow)
	if got != want || e != wantE {
		k.t.Fatalf("Resolve(%q, %v): %+v, %v, want %+v, %v in %+v", path, follow, got, e, want, wantE, k.Now)
	}
	k.done("Resolve", e)
	if e == api.OK {
		k.answers[fmt.Sprint("to ", got.Kind, " ", got.Name != "")]++
	}
}

func (k *keeper) inside(number, in int) {
	k.t.Helper()
	want, wantE := k.model().inside(number, in)
	if !k.ready(wantE) {
		return
	}
	got, e := k.View.Inside(number, in)
	if got != want || e != wantE {
		k.t.Fatalf("Inside(%d, %d): %v, %v, want %v, %v in %+v", number, in, got, e, want, wantE, k.Now)
	}
	k.done("Inside", e)
	if got {
		k.answers["inside"]++
	}
}

func (k *keeper) path(number int) {
	k.t.Helper()
	want, wantE := k.model().path(number)
	if !k.ready(wantE) {
		return
	}
	got, e := k.View.Path(number)
	if got != want || e != wantE {
		k.t.Fatalf("Path(%d): %q, %v, want %q, %v in %+v", number, got, e, want, wantE, k.Now)
	}
	k.done("Path", e)
}

// look asks for drawn paths, and for all numbers.
func (k *keeper) look() {
	k.t.Helper()
	for range 20 {
		path := k.text()
		if k.Dice.Below(20) > 0 {
			path = "/" + path
		}
		k.resolve(path, true)
		k.resolve(path, false)
	}
	for number := range k.nodes + 2 {
		k.path(number)
		k.inside(number, k.Dice.Below(k.nodes+2))
		k.inside(number, 1+k.Dice.Below(k.nodes))
	}
}

// P1102 to P1104: behind every change, and through aborts and cuts, all answers are the model's.
func TestP1102Drawn(t *testing.T) {
	t.Parallel()
	dice, answers := newDice(1102), map[string]int{}
	unsaved := 0
	for round := range 30 {
		form := []api.Super{small, {Sectors: 90, Log: 18, Nodes: 16}, {Sectors: 120, Log: 30, Nodes: 32}}[round%3]
		k := newKeeper(t, form, dice, answers)
		for range 150 {
			k.step()
			k.look()
			unsaved += k.Unsaved()
		}
	}
	for _, what := range []string{
		"Resolve ok", "Resolve notfound", "Resolve notdir", "Resolve corrupt", "Resolve loop", "Resolve path", "Resolve long", "Resolve name", "Resolve node",
		"to 0 true", "to 1 true", "to 2 true", "to 3 true", "to 2 false",
		"Inside ok", "inside", "Inside range", "Inside node", "Inside notdir", "Inside corrupt",
		"Path ok", "Path range", "Path node", "Path notdir", "Path corrupt", "Path notfound",
	} {
		if answers[what] < 100 {
			t.Errorf("the draw is thin: %q came %d times", what, answers[what])
		}
	}
	if unsaved < 2000 {
		t.Errorf("the draw is thin: %d", unsaved)
	}
}
