package site

import (
	"slices"
	"strings"

	"vellum/api"
)

// The words of dump's chapter about right lists of items, one by one, over whole lists.

// Broken is the first of the nine rules that a list breaks; 0, if it is right.
func Broken(items []api.Item) int {
	rules := []func(at int, item api.Item, items []api.Item) bool{rule2, rule3, rule4, rule5, rule6, rule7, rule8, rule9}
	if len(items) > 4096 {
		return 1
	}
	for i, holds := range rules {
		for at, item := range items {
			if !holds(at, item, items) {
				return i + 2
			}
		}
	}
	return 0
}

func rule2(at int, item api.Item, items []api.Item) bool {
	if len(item.Path) > 1023 || !strings.HasPrefix(item.Path, "/") {
		return false
	}
	for _, part := range strings.Split(item.Path, "/")[1:] {
		if part == "" || part == "." || part == ".." || len(part) > 54 || strings.Contains(part, "\x00") {
			return false
		}
	}
	return true
}

func rule3(at int, item api.Item, items []api.Item) bool {
	return at == 0 || Order(items[at-1].Path, item.Path) < 0
}

func rule4(at int, item api.Item, items []api.Item) bool {
	above := item.Path[:strings.LastIndex(item.Path, "/")]
	return above == "" || slices.ContainsFunc(items, func(x api.Item) bool { return x.Path == above && x.Kind == 2 })
}

func rule5(at int, item api.Item, items []api.Item) bool { return item.Kind >= 1 && item.Kind <= 4 }

func rule6(at int, item api.Item, items []api.Item) bool {
	if item.Kind != 1 {
		return true
	}
	if item.Size < 0 || item.Size > 8459264 || item.Target != "" {
		return false
	}
	blocks := 0
	for i, run := range item.Runs {
		if run.From < 0 || i > 0 && run.From <= item.Runs[i-1].To || run.To <= run.From || run.To > 16522 || (run.To-1)*512 >= item.Size {
			return false
		}
		blocks += run.To - run.From
	}
	if 512*blocks != len(item.Data) {
		return false
	}
	left := item.Data
	for _, run := range item.Runs {
		for place := run.From * 512; place < run.To*512; place++ {
			if place >= item.Size && left[0] != 0 {
				return false
			}
			left = left[1:]
		}
	}
	return true
}

func empty(item api.Item) bool {
	return item.Size == 0 && len(item.Runs) == 0 && len(item.Data) == 0
}

func rule7(at int, item api.Item, items []api.Item) bool {
	return item.Kind != 2 || item.Target == "" && empty(item)
}

func rule8(at int, item api.Item, items []api.Item) bool {
	return item.Kind != 3 || len(item.Target) >= 1 && len(item.Target) <= 255 && strings.Count(item.Target, "\x00") == 0 && empty(item)
}

func rule9(at int, item api.Item, items []api.Item) bool {
	return item.Kind != 4 || empty(item) && slices.ContainsFunc(items[:at], func(x api.Item) bool { return x.Path == item.Target && x.Kind == 1 })
}
