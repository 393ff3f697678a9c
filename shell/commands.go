package shell

import (
	"strconv"
	"strings"

	"vellum/api"
)

// need is what there must be for a command.
type need int

const (
	nothing need = iota
	aDisk
	anFS
)

// command is a row of the table of commands.
type command struct {
	needs need
	form  string // a letter for each word behind the name: t for any text, n for a number
	again bool   // the words behind the name have this form any number of times
	do    func(s *session, given arguments) string
}

// arguments are what a command is given: its texts and its numbers, each in their order.
type arguments struct {
	texts   []string
	numbers []int
}

// commands is the table of the commands, by name.
func commands() map[string]command {
	return map[string]command{
		"disk":       {needs: nothing, form: "n", do: (*session).newDisk},
		"fuse":       {needs: aDisk, form: "n", do: (*session).fuse},
		"cut":        {needs: aDisk, form: "nnn", again: true, do: (*session).cut},
		"mkfs":       {needs: aDisk, form: "nn", do: (*session).mkfs},
		"mount":      {needs: aDisk, do: (*session).mount},
		"sync":       {needs: anFS, do: (*session).sync},
		"checkpoint": {needs: anFS, do: (*session).checkpoint},
		"space":      {needs: anFS, do: (*session).space},
		"check":      {needs: anFS, form: "n", do: (*session).check},
		"create":     {needs: anFS, form: "t", do: onPath(api.OpCreate, noWords)},
		"mkdir":      {needs: anFS, form: "t", do: onPath(api.OpMkdir, noWords)},
		"unlink":     {needs: anFS, form: "t", do: onPath(api.OpUnlink, noWords)},
		"rmdir":      {needs: anFS, form: "t", do: onPath(api.OpRmdir, noWords)},
		"symlink":    {needs: anFS, form: "tt", do: (*session).symlink},
		"link":       {needs: anFS, form: "tt", do: fromTo(api.OpLink)},
		"rename":     {needs: anFS, form: "tt", do: fromTo(api.OpRename)},
		"read":       {needs: anFS, form: "tnn", do: (*session).read},
		"write":      {needs: anFS, form: "tnt", do: (*session).write},
		"truncate":   {needs: anFS, form: "tn", do: (*session).truncate},
		"punch":      {needs: anFS, form: "tnn", do: (*session).punch},
		"stat":       {needs: anFS, form: "t", do: onPath(api.OpStat, statOf)},
		"lstat":      {needs: anFS, form: "t", do: onPath(api.OpLstat, statOf)},
		"list":       {needs: anFS, form: "t", do: onPath(api.OpList, entriesOf)},
		"readlink":   {needs: anFS, form: "t", do: onPath(api.OpReadlink, targetOf)},
		"runs":       {needs: anFS, form: "t", do: onPath(api.OpRuns, runsOf)},
		"tree":       {needs: anFS, do: (*session).tree},
		"open":       {needs: anFS, form: "tn", do: (*session).open},
		"get":        {needs: anFS, form: "nn", do: (*session).get},
		"put":        {needs: anFS, form: "nt", do: (*session).put},
		"seek":       {needs: anFS, form: "nnn", do: (*session).seek},
		"fstat":      {needs: anFS, form: "n", do: (*session).fstat},
		"close":      {needs: anFS, form: "n", do: (*session).close},
		"dump":       {needs: anFS, do: (*session).dump},
		"restore":    {needs: anFS, do: (*session).restore},
		"tape":       {needs: nothing, form: "t", do: (*session).setTape},
		"items":      {needs: nothing, do: (*session).items},
	}
}

// taken reads the words behind a command's name, if they are what it asks for.
func (c command) taken(words []string) (given arguments, fit bool) {
	form := c.form
	if c.again {
		form = strings.Repeat(form, len(words)/len(form))
	}
	if len(words) != len(form) {
		return arguments{}, false
	}
	for i, word := range words {
		if form[i] == 't' {
			given.texts = append(given.texts, word)
			continue
		}
		number, is := numberOf(word)
		if !is {
			return arguments{}, false
		}
		given.numbers = append(given.numbers, number)
	}
	return given, true
}

// numberOf is the number that a word is. What strconv takes besides is none: a plus, and more digits than nine.
func numberOf(word string) (int, bool) {
	if strings.HasPrefix(word, "+") || len(strings.TrimPrefix(word, "-")) > maxDigits {
		return 0, false
	}
	number, err := strconv.Atoi(word)
	return number, err == nil
}
