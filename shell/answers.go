package shell

import (
	"slices"
	"strconv"
	"strings"

	"vellum/api"
)

// told is an error's word, and words behind it.
func told(e api.Errno, words ...string) string {
	return strings.Join(slices.Concat([]string{e.Error()}, words), " ")
}

// answered is told of a call that has something to tell just if it is not refused.
func answered(e api.Errno, words ...string) string {
	if e != api.OK {
		return told(e)
	}
	return told(e, words...)
}

// wrote is told of a write, which may have written something though there was no room for all of it.
func wrote(n int, e api.Errno) string {
	if e == api.ErrNoSpace {
		return told(e, strconv.Itoa(n))
	}
	return answered(e, strconv.Itoa(n))
}

// numbers are words, one for each number.
func numbers(list ...int) []string {
	var words []string
	for _, n := range list {
		words = append(words, strconv.Itoa(n))
	}
	return words
}

// What is told of an operation's reply, if it was not refused.

func noWords(api.Reply) []string { return nil }

func statOf(reply api.Reply) []string { return statWords(reply.Stat) }

func targetOf(reply api.Reply) []string { return []string{Quote([]byte(reply.Text))} }

func runsOf(reply api.Reply) []string { return runWords(reply.Runs) }

func entriesOf(reply api.Reply) []string {
	var words []string
	for _, entry := range reply.Entries {
		words = append(words, Quote([]byte(entry.Name)), strconv.Itoa(entry.Node), kindWord(entry.Kind), strconv.Itoa(entry.Slot))
	}
	return words
}

func statWords(s api.Stat) []string {
	return slices.Concat(numbers(s.Node), []string{kindWord(s.Kind)}, numbers(s.Links, s.Size, s.Owned))
}

func runWords(runs []api.Run) []string {
	var words []string
	for _, run := range runs {
		words = append(words, strconv.Itoa(run.From)+"-"+strconv.Itoa(run.To))
	}
	return words
}

func kindWord(kind int) string {
	switch kind {
	case api.KFile:
		return "file"
	case api.KDir:
		return "dir"
	}
	return "link"
}
