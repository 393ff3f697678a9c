package walk

import (
	"strings"

	"vellum/api"
	"vellum/codec"
)

const (
	slash = "/"
	here  = "."
	up    = ".."
)

func rooted(text string) bool { return strings.HasPrefix(text, slash) }

// parts are those of a text, in their order, if all of them are right. They are cut out by their places: whether the bytes between two slashes are letters is of no account.
func parts(text string) ([]string, api.Errno) {
	var list []string
	from := 0
	for at, letter := range text + slash { // one more ends the last part
		if letter != '/' {
			continue
		}
		part := text[from:at]
		from = at + 1
		if part == "" || part == here {
			continue
		}
		if e := right(part); e != api.OK {
			return nil, e
		}
		list = append(list, part)
	}
	return list, api.OK
}

// right says whether a way can go by a part.
func right(part string) api.Errno {
	if part == up {
		return api.OK
	}
	return codec.Name(part)
}
