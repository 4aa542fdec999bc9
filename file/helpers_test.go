package file_test

import (
	"bytes"
	"errors"
	"fmt"
	"math/rand/v2"
	"strings"
	"testing"

	"freight/api"
	"freight/disk"
	"freight/file"
)

// noise is the same row of numbers in every run.
func noise() *rand.Rand { return rand.New(rand.NewPCG(6, 111)) }

// of is a file.
func of(name, data string) api.FileBytes {
	return api.FileBytes{Name: name, Data: []byte(data)}
}

// times is a text of n bytes.
func times(n int, b byte) string { return string(bytes.Repeat([]byte{b}, n)) }

func mustLoad(t testing.TB, room int, files ...api.FileBytes) *disk.Disk {
	t.Helper()
	d, errno := disk.Load(room, files)
	if errno != api.OK || d == nil {
		t.Fatalf("Load(%d, %d files): %d", room, len(files), errno)
	}
	return d
}

// many are n files without bytes.
func many(n int) []api.FileBytes {
	var files []api.FileBytes
	for i := range n {
		files = append(files, of(fmt.Sprintf("m%03d", i), ""))
	}
	return files
}

// do asks for OK of calls of the disk.
func do(t testing.TB, answers ...api.Errno) {
	t.Helper()
	for i, errno := range answers {
		if errno != api.OK {
			t.Fatalf("call %d of the disk: %d", i, errno)
		}
	}
}

// show: files in words.
func show(files []api.FileBytes) string {
	var words []string
	for _, f := range files {
		words = append(words, f.Name+"="+string(f.Data))
	}
	return strings.Join(words, " ")
}

// all is what a disk tells of itself, but what was read, which is free.
func all(d *disk.Disk) string {
	return fmt.Sprintf("off %t, %d strokes, %d of %d, files %s; safe %s", d.Off(), d.Strokes(), d.Used(), d.Room(), show(d.Files()), show(d.Safe()))
}

// crashes are picks for every part of a row of at most six changes of names, and of bytes at their ends and within them.
func crashes() [][]int {
	var picks [][]int
	for names := range 7 {
		for bytes := range 8 {
			picks = append(picks, []int{names, bytes, bytes, bytes, bytes, bytes, bytes})
		}
	}
	return append(picks, nil, []int{-1, -1, -1, -1, -1}, []int{1, -2, 3, -4, 5}, []int{2, 0, 1, 2, 3}, []int{1 << 40, -1 << 40, 7})
}

// left is what a crash of a twin leaves.
func left(d *disk.Disk, picks []int) string {
	w := d.Twin()
	w.Crash(picks...)
	return show(w.Files())
}

// rows is what is not safe as yet, as crashes tell it.
func rows(d *disk.Disk) string {
	var text strings.Builder
	for _, picks := range crashes() {
		text.WriteString(left(d, picks) + "\n")
	}
	return text.String()
}

// wantCode asks for the fault of that call, name and number; for nil, if it is OK.
func wantCode(t testing.TB, what string, err error, op, name string, want api.Errno) {
	t.Helper()
	if want == api.OK {
		if err != nil {
			t.Errorf("%s: %v, want OK", what, err)
		}
		return
	}
	fault, ok := err.(*api.Fault)
	if !ok || fault == nil {
		t.Errorf("%s: %v (%T), want a fault with %d", what, err, err, want)
		return
	}
	if fault.Op != op || fault.Name != name || fault.ID != (api.ID{}) || !errors.Is(err, want) || api.Code(err) != want {
		t.Errorf("%s: %q %q %v %v, want %q %q and %d", what, fault.Op, fault.Name, fault.ID, fault.Err, op, name, want)
	}
}

func wantPut(t testing.TB, d *disk.Disk, name, data string, want api.Errno) {
	t.Helper()
	wantCode(t, fmt.Sprintf("Put(%.20q, %d bytes)", name, len(data)), file.Put(d, name, []byte(data)), "file.put", name, want)
}

func wantGet(t testing.TB, d *disk.Disk, name, data string) {
	t.Helper()
	got, err := file.Get(d, name)
	if err != nil || string(got) != data {
		t.Errorf("Get(%.20q): %q, %v, want %q", name, got, err, data)
	}
}

func wantNoGet(t testing.TB, d *disk.Disk, name string, want api.Errno) {
	t.Helper()
	got, err := file.Get(d, name)
	wantCode(t, fmt.Sprintf("Get(%.20q)", name), err, "file.get", name, want)
	if got != nil {
		t.Errorf("Get(%.20q): refused, but it tells %q", name, got)
	}
}

func wantDrop(t testing.TB, d *disk.Disk, name string, want api.Errno) {
	t.Helper()
	wantCode(t, fmt.Sprintf("Drop(%.20q)", name), file.Drop(d, name), "file.drop", name, want)
}

func wantClean(t testing.TB, d *disk.Disk, prefix string, want api.Errno) {
	t.Helper()
	wantCode(t, fmt.Sprintf("Clean(%.20q)", prefix), file.Clean(d, prefix), "file.clean", prefix, want)
}

// wantDisk asks for the strokes, the files, and those that are safe.
func wantDisk(t testing.TB, what string, d *disk.Disk, strokes int, files, safe string) {
	t.Helper()
	if d.Strokes() != strokes || show(d.Files()) != files || show(d.Safe()) != safe {
		t.Errorf("%s: %s\nwant %d strokes, files %s; safe %s", what, all(d), strokes, files, safe)
	}
}

// wantNothing asks that a call has changed nothing, not even by a stroke.
func wantNothing(t testing.TB, what string, d *disk.Disk, call func()) {
	t.Helper()
	before, row := all(d), rows(d)
	call()
	if all(d) != before || rows(d) != row {
		t.Errorf("%s: %s\nbefore: %s", what, all(d), before)
	}
}

// off is a disk with these files whose power went off.
func off(t testing.TB, files ...api.FileBytes) *disk.Disk {
	t.Helper()
	d := mustLoad(t, 1000, files...)
	d.Plan(api.Plan{Off: 1})
	if d.SyncNames() != api.ErrOff || !d.Off() {
		t.Fatal("its power is on")
	}
	return d
}
