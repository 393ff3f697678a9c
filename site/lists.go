package site

import (
	"strconv"
	"strings"

	"vellum/api"
)

// The items.
func DirItem(path string) api.Item { return api.Item{Kind: api.KDir, Path: path} }
func LinkItem(path, to string) api.Item {
	return api.Item{Kind: api.KLink, Path: path, Target: to}
}
func NameItem(path, first string) api.Item {
	return api.Item{Kind: api.KName, Path: path, Target: first}
}
func Run(from, to int) api.Run { return api.Run{From: from, To: to} }

// FileItem has so many bytes of Data, each of them 1 as far as it lies ahead of the size.
func FileItem(path string, size, data int, runs ...api.Run) api.Item {
	item := api.Item{Kind: api.KFile, Path: path, Size: size, Runs: runs, Data: make([]byte, data)}
	at := 0
	for _, r := range runs {
		for i := r.From * 512; i < r.To*512 && at < data; i++ {
			if i < size {
				item.Data[at] = 1
			}
			at++
		}
	}
	return item
}

// Three are the items of example 3 of dump's chapter.
func Three() []api.Item {
	hi := FileItem("/a", 2, 512, Run(0, 1))
	copy(hi.Data, "hi")
	return []api.Item{hi, DirItem("/d"), NameItem("/d/b", "/a"), LinkItem("/l", "a")}
}

// Many is a right list of so many items, which is at most 9999.
func Many(n int) []api.Item {
	var items []api.Item
	for i := range n {
		items = append(items, DirItem("/"+digits(i)))
	}
	return items
}

// digits are four of a number.
func digits(n int) string { return strconv.Itoa(10000 + n)[1:] }

// Filled is a right list whose archive has so many bytes: the most of them in files of 64 blocks.
func Filled(n int) []api.Item {
	var items []api.Item
	n -= 17
	for i := 0; n > 1200; i++ {
		blocks := min(64, (n-600)/512)
		item := FileItem("/f"+digits(i), 512*blocks, 512*blocks, Run(0, blocks))
		items = append(items, item)
		n -= 1 + 2 + 6 + 8 + 4 + 8 + 512*blocks
	}
	for i := 0; n > 0; i++ {
		most := min(n, 1+2+3+2+255)
		if n-most > 0 && n-most < 20 {
			most -= 20
		}
		items = append(items, LinkItem("/l"+strconv.Itoa(i), strings.Repeat("t", most-1-2-3-2)))
		n -= most
	}
	return items
}
