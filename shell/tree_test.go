package shell_test

import (
	"fmt"
	"strings"
	"testing"
)

// chain makes directories within one another, whose names have so many bytes; it answers the deepest one's path.
func chain(lengths ...int) ([]said, string) {
	var pairs []said
	path := ""
	for _, n := range lengths {
		path += "/" + strings.Repeat("n", n)
		pairs = append(pairs, said{"mkdir " + path, "ok"})
	}
	return pairs, path
}

// repeated is a list of one number.
func repeated(n, times int) []int {
	var list []int
	for range times {
		list = append(list, n)
	}
	return list
}

// tooDeep makes a directory whose path has 1024 bytes.
func tooDeep() []said {
	pairs, path := chain(append([]int{53}, repeated(54, 17)...)...)
	last := "/" + strings.Repeat("z", 1023-len(path)-1)
	return append(pairs, said{"mkdir " + path + last, "ok"}, said{"rename /" + strings.Repeat("n", 53) + " /" + strings.Repeat("n", 54), "ok"})
}

func TestP1607Order(t *testing.T) {
	plays(t, mounted(80, 18, 16,
		said{"tree", `ok "/" 1 dir 2 0 0 0 -`}, said{"create /b", "ok"}, said{"mkdir /a.b", "ok"}, said{"mkdir /a", "ok"}, said{"create /a/z", "ok"}, said{"mkdir /a/c", "ok"}, said{"create /a.b/x", "ok"}, said{"symlink ../b /a/c/l", "ok"}, said{"mkdir /c", "ok"},
		said{"tree", `ok "/" 1 dir 5 512 1 0 - "/a" 4 dir 3 512 1 2 - "/a/c" 6 dir 2 512 1 1 - "/a/c/l" 8 link 1 4 1 0 "../b" "/a/z" 5 file 1 0 0 0 -:0 "/a.b" 3 dir 2 512 1 1 - "/a.b/x" 7 file 1 0 0 0 -:0 "/b" 2 file 1 0 0 0 -:0 "/c" 9 dir 2 0 0 3 -`},
		said{"rename /a/z /c/y", "ok"}, said{"unlink /b", "ok"}, said{"link /c/y /a/y", "ok"},
		said{"tree", `ok "/" 1 dir 5 512 1 0 - "/a" 4 dir 3 512 1 2 - "/a/c" 6 dir 2 512 1 1 - "/a/c/l" 8 link 1 4 1 0 "../b" "/a/y" 5 file 2 0 0 0 -:0 "/a.b" 3 dir 2 512 1 1 - "/a.b/x" 7 file 1 0 0 0 -:0 "/c" 9 dir 2 512 1 3 - "/c/y" 5 file 2 0 0 0 -:0`},
	)...)
}

func TestP1607Words(t *testing.T) {
	plays(t, mounted(80, 18, 8,
		said{`mkdir "/a b"`, "ok"}, said{`create "/a b/\"\\\n\t\x7f\xff#"`, "ok"}, said{`symlink "\xff \"" /l`, "ok"}, said{`symlink - /m`, "ok"},
		said{"tree", `ok "/" 1 dir 3 512 1 0 - "/a b" 2 dir 2 512 1 0 - "/a b/\"\\\n\t\x7f\xff#" 3 file 1 0 0 0 -:0 "/l" 4 link 1 3 1 1 "\xff \"" "/m" 5 link 1 1 1 2 "-"`},
	)...)
}

// sumOf is the word of a sum, found by another program for sums than the shell's.
func sumOf(b string) string { return fmt.Sprint(crc(b)) }

func TestP1607Files(t *testing.T) {
	zeros := strings.Repeat("\x00", 512)
	tree := func(stat, content string) said {
		return said{"tree", `ok "/" 1 dir 2 512 1 0 - "/a" 2 file 1 ` + stat + ` 0 ` + content}
	}
	plays(t, mounted(80, 18, 8,
		said{"create /a", "ok"}, tree("0 0", "-:0"), said{"truncate /a 700", "ok"}, tree("700 0", "-:0"), said{"write /a 0 x", "ok 1"}, tree("700 1", "0-1:"+sumOf("x"+zeros[1:])),
		said{"write /a 699 y", "ok 1"}, tree("700 2", "0-2:"+sumOf("x"+zeros[1:]+zeros[:187]+"y"+zeros[188:])), said{"truncate /a 1", "ok"}, tree("1 1", "0-1:"+sumOf("x"+zeros[1:])), said{"punch /a 0 1", "ok"}, tree("1 0", "-:0"),
		said{"write /a 512 pq", "ok 2"}, tree("514 1", "1-2:"+sumOf("pq"+zeros[2:])), said{"write /a 6000 rs", "ok 2"}, tree("6002 3", "1-2,11-12:"+sumOf("pq"+zeros[2:]+zeros[:368]+"rs"+zeros[370:])),
		said{"write /a 2047 vw", "ok 2"}, tree("6002 5", "1-2,3-5,11-12:"+sumOf("pq"+zeros[2:]+zeros[:511]+"v"+"w"+zeros[1:]+zeros[:368]+"rs"+zeros[370:])),
		said{"write /a 0 " + strings.Repeat("m", 512), "ok 512"}, said{"truncate /a 512", "ok"}, tree("512 1", "0-1:"+sumOf(strings.Repeat("m", 512))), said{"write /a 8459263 e", "ok 1"}, tree("8459264 4", "0-1,16521-16522:"+sumOf(strings.Repeat("m", 512)+zeros[:511]+"e")),
		said{`write /a 0 "` + strings.Repeat(`\x00`, 512) + `"`, "ok 512"}, tree("8459264 4", "0-1,16521-16522:"+sumOf(zeros+zeros[:511]+"e")),
	)...)
}

// A row of more blocks than one read tells, up to each edge of what a read is.
func TestP1607LongRow(t *testing.T) {
	for _, size := range []int{65535, 65536, 65537, 66048, 131071, 131072, 131073} {
		pairs := mounted(400, 18, 4, said{"create /a", "ok"}, said{"truncate /a 200000", "ok"})
		content := make([]byte, (size+511)/512*512)
		for at := 0; at < size; at += 512 {
			x := byte('a' + at/512%26)
			content[at] = x
			pairs = append(pairs, said{fmt.Sprintf("write /a %d %c", at, x), "ok 1"})
		}
		content[size-1] = 'Z'
		pairs = append(pairs, said{fmt.Sprintf("write /a %d Z", size-1), "ok 1"}, said{fmt.Sprint("truncate /a ", size), "ok"})
		blocks := len(content) / 512
		owned := blocks + 1
		if blocks > 138 {
			owned += 2
		}
		plays(t, append(pairs, said{"tree", fmt.Sprintf(`ok "/" 1 dir 2 512 1 0 - "/a" 2 file 1 %d %d 0 0-%d:%s`, size, owned, blocks, sumOf(string(content)))})...)
	}
}

// Files of several names, and files that are alike, are not mixed up.
func TestP1607Names(t *testing.T) {
	pad := strings.Repeat("\x00", 511)
	plays(t, mounted(80, 18, 8,
		said{"create /a", "ok"}, said{"create /b", "ok"}, said{"write /a 0 1", "ok 1"}, said{"write /b 0 2", "ok 1"}, said{"link /a /c", "ok"}, said{"link /b /d", "ok"}, said{"mkdir /e", "ok"}, said{"link /b /e/a", "ok"}, said{"link /a /e/b", "ok"},
		said{"tree", fmt.Sprintf(`ok "/" 1 dir 3 512 1 0 - "/a" 2 file 3 1 1 0 0-1:%[1]s "/b" 3 file 3 1 1 1 0-1:%[2]s "/c" 2 file 3 1 1 2 0-1:%[1]s "/d" 3 file 3 1 1 3 0-1:%[2]s "/e" 4 dir 2 512 1 4 - "/e/a" 3 file 3 1 1 0 0-1:%[2]s "/e/b" 2 file 3 1 1 1 0-1:%[1]s`, sumOf("1"+pad), sumOf("2"+pad))},
	)...)
}

// A file that is open and has no name is not in the tree.
func TestP1607Nameless(t *testing.T) {
	plays(t, mounted(64, 18, 4, said{"open /a 11", "ok 1"}, said{"put 1 x", "ok 1"}, said{"unlink /a", "ok"}, said{"tree", `ok "/" 1 dir 2 0 0 0 -`}, said{"check 1", "ok 0 1 0 1 1"})...)
}

// The longest path is told; one byte more, and nothing is.
func TestP1607Long(t *testing.T) {
	for _, kind := range []string{"mkdir %s", "create %s", "symlink x %s"} {
		deep, path := chain(append([]int{53}, repeated(54, 17)...)...)
		last := path + "/" + strings.Repeat("z", 1023-len(path)-1)
		pairs := mounted(120, 18, 32, deep...)
		pairs = append(pairs, said{fmt.Sprintf(kind, last), "ok"}, said{"create /a", "ok"}, said{"create /zz", "ok"})
		script := []string{}
		for _, p := range pairs {
			script = append(script, p[0])
		}
		if got := answerTo(t, append(script, "tree")...); !strings.HasPrefix(got, `ok "/" `) || !strings.Contains(got, ` "`+last+`" `) {
			t.Errorf("P1607: %s with a path of %d bytes: %.200s", kind, len(last), got)
		}
		plays(t, append(pairs, said{"rename /" + strings.Repeat("n", 53) + " /" + strings.Repeat("n", 54), "ok"}, said{"tree", "long"}, said{"list /", `ok "a" 21 file 1 "` + strings.Repeat("n", 54) + `" 2 dir 0 "zz" 22 file 2`}, said{"tree", "long"})...)
	}
}

// A file with a short name and one that is too long: it is the path that is refused.
func TestP1607SecondNameLong(t *testing.T) {
	pairs := mounted(120, 18, 32, said{"create /a", "ok"}, said{"write /a 0 x", "ok 1"})
	deep, path := chain(append([]int{53}, repeated(54, 17)...)...)
	pairs = append(pairs, deep...)
	pairs = append(pairs, said{"link /a " + path + "/" + strings.Repeat("z", 1023-len(path)-1), "ok"}, said{"rename /" + strings.Repeat("n", 53) + " /" + strings.Repeat("n", 54), "ok"})
	plays(t, append(pairs, said{"tree", "long"}, said{"stat /a", "ok 2 file 2 1 1"})...)
}

func TestP1607Refused(t *testing.T) {
	plays(t, said{"tree", "ended"}, said{"tree /", "word"}, said{"disk 64", "ok"}, said{"tree", "ended"}, said{"mkfs 18 4", "ok"}, said{"mount", "ok"}, said{"create /a", "ok"}, said{"fuse 0", "ok"}, said{"tree", "dead"}, said{"cut", "ok"}, said{"tree", "dead"})
}

// Nothing is changed by it, and nothing is written: it needs no power for that.
func TestP1607ChangesNothing(t *testing.T) {
	want := `ok "/" 1 dir 2 512 1 0 - "/a" 2 file 1 1 1 0 0-1:` + sumOf("x"+strings.Repeat("\x00", 511))
	plays(t, mounted(64, 18, 4, said{"create /a", "ok"}, said{"write /a 0 x", "ok 1"}, said{"fuse 1", "ok"}, said{"tree", want}, said{"tree", want}, said{"space", "ok 38 2"}, said{"check 1", "ok 1 1 0 0 2"}, said{"sync", "ok"}, said{"tree", "dead"}, said{"cut", "ok"}, said{"mount", "ok"}, said{"tree", want})...)
}
