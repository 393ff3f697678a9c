package fs

import (
	"errors"
	"testing"

	"vellum/api"
	"vellum/disk"
)

// What a step gives up by is an error that says what could not go on, and why.
func TestRefusal(t *testing.T) {
	var err error = refusal{"create", api.ErrExists}
	var why api.Errno
	if err.Error() != "create: exists" || !errors.Is(err, api.ErrExists) || !errors.As(err, &why) || why != api.ErrExists {
		t.Errorf("%v, %v", err, why)
	}
}

func TestOperations(t *testing.T) {
	words := []string{"operation", "create", "mkdir", "symlink", "link", "unlink", "rmdir", "rename", "read", "write", "truncate", "punch", "stat", "lstat", "list", "readlink", "runs", "operation"}
	for kind := -1; kind <= 17; kind++ {
		if o, want := operationOf(kind), words[max(kind, 0)]; o.name != want || o.do == nil {
			t.Errorf("%d: %q, want %q", kind, o.name, want)
		}
	}
}

// What is no refusal is not taken for one: it goes on, and leaves the store free for the next step.
func TestNoRefusal(t *testing.T) {
	d, _ := disk.New(64)
	Mkfs(d, 18, 4)
	f, e := Mount(d)
	if e != api.OK {
		t.Fatal(e)
	}
	for _, thrown := range []any{"a text", errors.New("another error"), 7} {
		got := any(nil)
		func() {
			defer func() { got = recover() }()
			f.inStep("test", func(s *step) {
				s.must(s.Add(api.Root, "n", 2, api.KFile))
				panic(thrown)
			})
		}()
		if got != thrown {
			t.Errorf("%v is what goes on, want %v", got, thrown)
		}
		if r := f.Do(api.Op{Kind: api.OpList, Path: "/"}); r.Err != api.OK || r.N != 0 {
			t.Errorf("behind it: %+v", r)
		}
	}
}
