package patch

import (
	"cmp"
	"fmt"
	"slices"
	"strings"
	"testing"
)

// told is what beside tells of lists of words, by their first letters.
func told(stop string, lists ...[]string) ([]string, int) {
	asked := 0
	first := func(word string) string {
		asked++
		return word[:1]
	}
	var all []string
	for letter, at := range beside(first, strings.Compare, lists...) {
		line := letter
		for _, word := range at {
			if word == nil {
				line += " -"
			} else {
				line += " " + *word
			}
		}
		all = append(all, line)
		if letter == stop {
			break
		}
	}
	return all, asked
}

// Each key is told once, in order, with what each list has there.
func TestBeside(t *testing.T) {
	for i, c := range []struct {
		lists [][]string
		want  string
	}{
		{nil, ""}, {[][]string{nil}, ""}, {[][]string{nil, {}, nil}, ""},
		{[][]string{{"a1", "c1"}}, "a a1, c c1"},
		{[][]string{{"a1", "c1"}, nil}, "a a1 -, c c1 -"}, {[][]string{nil, {"a2", "c2"}}, "a - a2, c - c2"},
		{[][]string{{"a1", "c1"}, {"b2", "c2", "d2"}}, "a a1 -, b - b2, c c1 c2, d - d2"},
		{[][]string{{"b1"}, {"a2", "b2"}, {"a3", "c3"}}, "a - a2 a3, b b1 b2 -, c - - c3"},
		{[][]string{{"z1"}, {"z2"}, {"z3"}}, "z z1 z2 z3"}, {[][]string{{"c1", "d1"}, {"b2"}, {"a3"}}, "a - - a3, b - b2 -, c c1 - -, d d1 - -"},
	} {
		if got, _ := told("", c.lists...); strings.Join(got, ", ") != c.want {
			t.Errorf("row %d: %v, want %s", i, got, c.want)
		}
	}
}

// Who stops has seen enough: nothing more is asked, and the lists are as they were.
func TestBesideStops(t *testing.T) {
	one, two := []string{"a1", "b1", "c1", "d1"}, []string{"b2", "d2", "e2"}
	got, few := told("b", one, two)
	if strings.Join(got, ", ") != "a a1 -, b b1 b2" {
		t.Errorf("up to b: %v", got)
	}
	all, many := told("", one, two)
	if len(all) != 5 || few >= many {
		t.Errorf("asked %d times up to b, %d times in all", few, many)
	}
	if again, _ := told("", one, two); !slices.Equal(all, again) || fmt.Sprint(one, two) != "[a1 b1 c1 d1] [b2 d2 e2]" {
		t.Errorf("again: %v", again)
	}
}

// What is told is the lists' own: numbers as well as words.
func TestBesideNumbers(t *testing.T) {
	list := []int{1, 5, 9}
	same := func(n int) int { return n }
	for n, at := range beside(same, cmp.Compare[int], list, []int{5}) {
		if at[0] == nil || *at[0] != n || (at[1] != nil) != (n == 5) {
			t.Errorf("%d: %v", n, at)
		}
	}
}
