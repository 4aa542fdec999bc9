package disk_test

import (
	"fmt"
	"testing"

	"freight/api"
	"freight/disk"
)

// states are disks in which a twin has something to copy.
func states(t *testing.T) map[string]*disk.Disk {
	t.Helper()
	planned := roomy(t)
	do(t, planned, plan(4, 2, 3), create("c"))
	off := chapters(t)
	do(t, off, plan(2, 0, 0), appendTo("a", "!"))
	wantErrno(t, off, rename("a", "c"), api.ErrOff)
	torn := roomy(t)
	do(t, torn, rename("a", "c"), remove("b"), create("a"), appendTo("a", "new"), syncFile("c"), writeAt("c", 3, "NES"), truncate("c", 4), rename("c", "b"), create("c"), read("b", 1, 2))
	crashed := chapters(t)
	crashed.Crash(1, 1, 1)
	return map[string]*disk.Disk{"new": mustNew(t, 30), "loaded": roomy(t), "the chapter's": chapters(t), "planned": planned, "off": off, "torn": torn, "crashed": crashed}
}

// further are rows of calls that go on from a state.
func further() [][]call {
	rows := [][]call{nil}
	calls := append(changing(), create("a"), writeAt("b", 0, "QQQ"), appendTo("c", "+"), truncate("c", 1), rename("c", "a"), rename("b", "c"), remove("c"), syncFile("b"), read("a", 0, 1), look(), plan(2, 1, 1))
	for _, one := range calls {
		rows = append(rows, []call{one})
		for _, other := range calls {
			rows = append(rows, []call{one, other})
		}
	}
	return rows
}

// A twin answers as the disk would: one goes on, and then the other one, which knows nothing of it.
func TestP5_9_AsThisOneWould(t *testing.T) {
	for what := range states(t) {
		for i, row := range further() {
			d := states(t)[what]
			w, third := d.Twin(), d.Twin()
			before := all(d)
			if all(w) != before {
				t.Fatalf("%s: %s, its twin: %s", what, before, all(w))
			}
			first, second := d, w
			if i%2 == 1 {
				first, second = w, d
			}
			var told []string
			for _, c := range append(row, crash(1, 2, 1, 2)) {
				told = append(told, fmt.Sprint(c.on(first)), all(first))
			}
			if all(second) != before {
				t.Fatalf("%s: %s went on, and the other one is now %s", what, texts(row), all(second))
			}
			var again []string
			for _, c := range append(row, crash(1, 2, 1, 2)) {
				again = append(again, fmt.Sprint(c.on(second)), all(second))
			}
			if fmt.Sprint(told) != fmt.Sprint(again) {
				t.Fatalf("%s: %s\none:   %s\nother: %s", what, texts(row), told, again)
			}
			if all(third) != before {
				t.Fatalf("%s: a third one is now %s", what, all(third))
			}
		}
	}
}

// Whatever a crash picks leaves the same of a disk and of its twin, behind a twin's crash too.
func TestP5_9_CrashOfATwin(t *testing.T) {
	for what := range states(t) {
		for names := range 7 {
			for one := range 5 {
				for other := range 5 {
					d := states(t)[what]
					w := d.Twin()
					v := w.Twin()
					before := all(d)
					w.Crash(names, one, other)
					if all(d) != before || all(v) != before {
						t.Fatalf("%s: a twin's crash changed another", what)
					}
					d.Crash(names, one, other)
					v.Crash(names, one, other)
					if all(d) != all(w) || all(v) != all(w) {
						t.Fatalf("%s: Crash(%d, %d, %d): %s, its twin: %s", what, names, one, other, all(d), all(w))
					}
				}
			}
		}
	}
}

func TestP5_9_Plan(t *testing.T) {
	d := roomy(t)
	do(t, d, plan(3, 2, 2), syncNames())
	w := d.Twin()
	wantAt(t, w, create("c"), api.ErrFull)
	wantErrno(t, w, create("c"), api.ErrOff)
	if d.Off() || d.Strokes() != 1 {
		t.Errorf("the twin's power went off: %s", all(d))
	}
	do(t, d, plan(0, 0, 0), create("c"), create("d"), create("e"))
	if !w.Off() {
		t.Errorf("a plan put the twin's power on")
	}
	v := w.Twin()
	if !v.Off() || v.Create("x") != api.ErrOff || show(v.Files()) != show(w.Files()) {
		t.Errorf("twin of one that is off: %s", all(v))
	}
	v.Crash(1)
	if v.Off() || !w.Off() {
		t.Errorf("a crash of a twin: off %t, %t", v.Off(), w.Off())
	}
	wantFiles(t, "the twin's crash", v, "a=crate b=xy c=")
}

func TestP5_9_Reads(t *testing.T) {
	d := roomy(t)
	do(t, d, read("a", 0, 1))
	w := d.Twin()
	do(t, d, read("a", 0, 2))
	do(t, w, read("b", 0, 1), read("b", 1, 1))
	if fmt.Sprint(d.Reads(), w.Reads()) != "[{a 0 1} {a 0 2}] [{a 0 1} {b 0 1} {b 1 1}]" {
		t.Errorf("%v, %v", d.Reads(), w.Reads())
	}
	do(t, w, look())
	if len(d.Reads()) != 2 || len(w.Reads()) != 0 {
		t.Errorf("%v, %v", d.Reads(), w.Reads())
	}
	// Not even the room behind the end, however many there were.
	for n := range 40 {
		d := roomy(t)
		for range n {
			do(t, d, read("a", 0, 0))
		}
		w := d.Twin()
		do(t, d, read("a", 1, 1))
		do(t, w, read("b", 2, 0))
		if got := fmt.Sprint(d.Reads()[n:], w.Reads()[n:]); got != "[{a 1 1}] [{b 2 0}]" {
			t.Errorf("behind %d reads: %s", n, got)
		}
	}
}

// Nor the room behind the ends of the rows, of the names' and of a file's.
func TestP5_9_Rows(t *testing.T) {
	for n := range 20 {
		d := mustLoad(t, 1000, file("a", ""))
		for i := range n {
			do(t, d, appendTo("a", "x"), create(fmt.Sprint("n", i)))
		}
		w := d.Twin()
		do(t, d, appendTo("a", "1"), create("one"))
		do(t, w, appendTo("a", "2"), create("other"))
		for _, x := range []struct {
			d          *disk.Disk
			data, name string
		}{{d, "1", "one"}, {w, "2", "other"}} {
			x.d.Crash(n+1, n+1)
			if f := x.d.Files(); string(f[0].Data) != times(n, 'x')+x.data || f[len(f)-1].Name != x.name {
				t.Errorf("behind %d changes: %s", n, show(f))
			}
		}
	}
}
