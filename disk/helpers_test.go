package disk_test

import (
	"bytes"
	"fmt"
	"math/rand/v2"
	"strings"
	"testing"

	"freight/api"
	"freight/disk"
)

// noise is the same row of numbers in every run.
func noise() *rand.Rand { return rand.New(rand.NewPCG(5, 256)) }

// face is what can be asked of a disk, and of the one by the words too.
type face interface {
	Create(name string) api.Errno
	WriteAt(name string, at int, data []byte) api.Errno
	Append(name string, data []byte) api.Errno
	Truncate(name string, n int) api.Errno
	Rename(from, to string) api.Errno
	Remove(name string) api.Errno
	Sync(name string) api.Errno
	SyncNames() api.Errno
	Read(name string, at, n int) ([]byte, api.Errno)
	Size(name string) (int, api.Errno)
	List(prefix string) []string
	Plan(p api.Plan)
	Crash(picks ...int)
	Off() bool
	Strokes() int
	Used() int
	Room() int
	Files() []api.FileBytes
	Safe() []api.FileBytes
	Reads() []api.Span
	Look()
}

// call is a call with its arguments; its answer is told in words.
type call struct {
	text string
	on   func(d face) (api.Errno, string)
}

func plain(text string, on func(d face) api.Errno) call {
	return call{text, func(d face) (api.Errno, string) { return on(d), "" }}
}

func create(name string) call {
	return plain(fmt.Sprintf("Create(%q)", name), func(d face) api.Errno { return d.Create(name) })
}

func writeAt(name string, at int, data string) call {
	return plain(fmt.Sprintf("WriteAt(%q, %d, %q)", name, at, data), func(d face) api.Errno { return d.WriteAt(name, at, []byte(data)) })
}

func appendTo(name, data string) call {
	return plain(fmt.Sprintf("Append(%q, %q)", name, data), func(d face) api.Errno { return d.Append(name, []byte(data)) })
}

func truncate(name string, n int) call {
	return plain(fmt.Sprintf("Truncate(%q, %d)", name, n), func(d face) api.Errno { return d.Truncate(name, n) })
}

func rename(from, to string) call {
	return plain(fmt.Sprintf("Rename(%q, %q)", from, to), func(d face) api.Errno { return d.Rename(from, to) })
}

func remove(name string) call {
	return plain(fmt.Sprintf("Remove(%q)", name), func(d face) api.Errno { return d.Remove(name) })
}

func syncFile(name string) call {
	return plain(fmt.Sprintf("Sync(%q)", name), func(d face) api.Errno { return d.Sync(name) })
}

func syncNames() call {
	return plain("SyncNames()", func(d face) api.Errno { return d.SyncNames() })
}

func read(name string, at, n int) call {
	return call{fmt.Sprintf("Read(%q, %d, %d)", name, at, n), func(d face) (api.Errno, string) {
		data, errno := d.Read(name, at, n)
		return errno, string(data)
	}}
}

func size(name string) call {
	return call{fmt.Sprintf("Size(%q)", name), func(d face) (api.Errno, string) {
		n, errno := d.Size(name)
		return errno, fmt.Sprint(n)
	}}
}

func list(prefix string) call {
	return call{fmt.Sprintf("List(%q)", prefix), func(d face) (api.Errno, string) {
		return api.OK, strings.Join(d.List(prefix), " ")
	}}
}

func plan(off, from, to int) call {
	return plain(fmt.Sprintf("Plan(%d, %d, %d)", off, from, to), func(d face) api.Errno {
		d.Plan(api.Plan{Off: off, From: from, To: to})
		return api.OK
	})
}

func crash(picks ...int) call {
	return plain(fmt.Sprintf("Crash(%v)", picks), func(d face) api.Errno {
		d.Crash(picks...)
		return api.OK
	})
}

func look() call {
	return plain("Look()", func(d face) api.Errno {
		d.Look()
		return api.OK
	})
}

// show: files in words.
func show(files []api.FileBytes) string {
	var words []string
	for _, f := range files {
		words = append(words, f.Name+"="+string(f.Data))
	}
	return strings.Join(words, " ")
}

// all is everything that a disk tells of itself.
func all(d face) string {
	return fmt.Sprintf("off %t, %d strokes, %d of %d, files %s; safe %s; list %q; reads %v",
		d.Off(), d.Strokes(), d.Used(), d.Room(), show(d.Files()), show(d.Safe()), d.List(""), d.Reads())
}

func mustNew(t *testing.T, room int) *disk.Disk {
	t.Helper()
	d, errno := disk.New(room)
	if errno != api.OK || d == nil {
		t.Fatalf("New(%d): %d", room, errno)
	}
	return d
}

func mustLoad(t *testing.T, room int, files ...api.FileBytes) *disk.Disk {
	t.Helper()
	d, errno := disk.Load(room, files)
	if errno != api.OK || d == nil {
		t.Fatalf("Load(%d, %d files): %d", room, len(files), errno)
	}
	return d
}

func file(name, data string) api.FileBytes {
	return api.FileBytes{Name: name, Data: []byte(data)}
}

// do asks for OK of each call.
func do(t *testing.T, d face, calls ...call) {
	t.Helper()
	for _, c := range calls {
		if errno, _ := c.on(d); errno != api.OK {
			t.Fatalf("%s: %d, want OK; %s", c.text, errno, all(d))
		}
	}
}

// wantErrno asks for the error.
func wantErrno(t *testing.T, d face, c call, want api.Errno) {
	t.Helper()
	if errno, _ := c.on(d); errno != want {
		t.Errorf("%s: %d, want %d; %s", c.text, errno, want, all(d))
	}
}

// wantAhead asks for an error ahead of the stroke: nothing has changed.
func wantAhead(t *testing.T, d face, c call, want api.Errno) {
	t.Helper()
	before := all(d)
	wantErrno(t, d, c, want)
	if all(d) != before {
		t.Errorf("%s: refused, but there is now: %s\nbefore: %s", c.text, all(d), before)
	}
}

// wantAt asks for an error at the stroke, which alone has changed.
func wantAt(t *testing.T, d face, c call, want api.Errno) {
	t.Helper()
	strokes, files, safe, reads := d.Strokes(), show(d.Files()), show(d.Safe()), fmt.Sprint(d.Reads())
	wantErrno(t, d, c, want)
	if d.Strokes() != strokes+1 {
		t.Errorf("%s: %d strokes behind %d", c.text, d.Strokes(), strokes)
	}
	if show(d.Files()) != files || show(d.Safe()) != safe || fmt.Sprint(d.Reads()) != reads {
		t.Errorf("%s: refused, but there is now: %s", c.text, all(d))
	}
}

func wantFiles(t *testing.T, what string, d face, want string) {
	t.Helper()
	if got := show(d.Files()); got != want {
		t.Errorf("%s: files %q, want %q", what, got, want)
	}
}

func wantSafe(t *testing.T, what string, d face, want string) {
	t.Helper()
	if got := show(d.Safe()); got != want {
		t.Errorf("%s: safe %q, want %q", what, got, want)
	}
}

// wantLeft asks what a crash of a twin leaves, all of it safe.
func wantLeft(t *testing.T, d *disk.Disk, picks []int, want string) {
	t.Helper()
	w := d.Twin()
	w.Crash(picks...)
	wantFiles(t, fmt.Sprint("behind Crash", picks), w, want)
	wantSafe(t, fmt.Sprint("behind Crash", picks), w, want)
	if w.Off() || w.Strokes() != 0 {
		t.Errorf("behind Crash%v: off %t, %d strokes", picks, w.Off(), w.Strokes())
	}
}

// wantSame asks two disks the same call, and then all that they tell.
func wantSame(t *testing.T, got, want face, c call, before []call) bool {
	t.Helper()
	errno, text := c.on(got)
	wanted, words := c.on(want)
	if errno != wanted || text != words || all(got) != all(want) {
		t.Errorf("behind %s\n%s: %d %q, want %d %q\ngot:  %s\nwant: %s", texts(before), c.text, errno, text, wanted, words, all(got), all(want))
		return false
	}
	return true
}

func texts(calls []call) string {
	var words []string
	for _, c := range calls {
		words = append(words, c.text)
	}
	return strings.Join(words, ", ")
}

// times is a text of n bytes.
func times(n int, b byte) string { return string(bytes.Repeat([]byte{b}, n)) }
