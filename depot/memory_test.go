package depot_test

import (
	"slices"
	"testing"

	"freight/api"
	"freight/depot"
)

// handed is a step whose lists have room behind their ends that is written full.
func handed(s api.Step) api.Step {
	s.Data, s.Actions, s.Picks = spare(s.Data, 0xee), spare(s.Actions, act(0xee)), spare(s.Picks, 0xee)
	return s
}

// isAsHanded tells whether such a step is as it was, behind the ends too.
func isAsHanded(s, was api.Step) bool {
	return isSpare(s.Data, was.Data, 0xee) && isSpare(s.Actions, was.Actions, act(0xee)) && isSpare(s.Picks, was.Picks, 0xee)
}

// asked are steps of all kinds, OK and refused, each with the files that it needs.
func asked() []scene {
	var all []scene
	for _, x := range scenes() {
		x.step.Picks = []int{1, 2, 3}
		all = append(all, x)
	}
	for _, list := range refusals() {
		for _, r := range list {
			all = append(all, scene{r.files, r.step})
		}
	}
	full := scenes()["get"].files
	return append(all, scene{full, crash(1, 2, 3)}, scene{full, crash()}, scene{full, off(3)}, scene{full, api.Step{Data: []byte("none"), Actions: acts(3, 1, 2)}},
		scene{full, export("a", "z", 64, acts(14, 11, 13, 11, 12)...)}, scene{full, restoring("b", "x", api.Keep, acts(14, 11, 13, 11, 12)...)})
}

// What is handed in stays as it was, behind its end too, however the step ends.
func TestP19_7_TakesNothing(t *testing.T) {
	for _, x := range asked() {
		for _, p := range []api.Plan{{}, {Off: 1}, {Off: 3}, {From: 1, To: 2}, {From: 2, To: 9}} {
			d := x.load(t)
			d.Disk().Plan(p)
			s := handed(x.step)
			d.Do(s)
			if !isAsHanded(s, x.step) {
				t.Errorf("%s: what was handed in is another", name(x.step))
			}
		}
	}
}

// It is not kept: what is written over it later changes nothing.
func TestP19_7_KeepsNothing(t *testing.T) {
	for _, x := range asked() {
		d := x.load(t)
		s := handed(x.step)
		got := d.Do(s)
		want, files := deepCopy(got), d.Disk().Files()
		fill(s.Data, 0x11)
		fill(s.Actions, act(0x11))
		fill(s.Picks, 0x11)
		if !sameAnswer(got, want) {
			t.Errorf("%s: an answer hangs on what was handed in", name(x.step))
		}
		if !sameFiles(d.Disk().Files(), files) {
			t.Errorf("%s: the disk hangs on what was handed in", name(x.step))
		}
	}
}

// deepCopy is an answer that shares nothing with another.
func deepCopy(a api.Answer) api.Answer {
	a.Data, a.IDs, a.Results, a.Blobs = slices.Clone(a.Data), slices.Clone(a.IDs), slices.Clone(a.Results), slices.Clone(a.Blobs)
	return a
}

// overwrite writes over all lists of an answer, and over their room.
func overwrite(a api.Answer) {
	fill(a.Data, 0x77)
	fill(a.IDs, act(0x77))
	fill(a.Results, res(0x77, act(0x77), 0x77))
	fill(a.Blobs, api.Place{ID: act(0x77), At: 0x77, N: 0x77})
}

// What is answered is new memory, its room too: it shares none with the disk, with
// what was handed in, or with another answer.
func TestP19_7_NewMemory(t *testing.T) {
	told := 0
	for _, x := range asked() {
		d := x.load(t)
		s := handed(x.step)
		got := d.Do(s)
		want, files := deepCopy(got), d.Disk().Files()
		told += len(got.Data) + len(got.IDs) + len(got.Results) + len(got.Blobs)
		var again api.Answer
		if looks(x.step.Kind) {
			again = d.Do(s)
		}
		overwrite(got)
		if looks(x.step.Kind) && (!sameAnswer(again, want) || !sameAnswer(d.Do(s), want)) {
			t.Errorf("%s: two answers share memory", name(x.step))
		}
		if !isAsHanded(s, x.step) || !sameFiles(d.Disk().Files(), files) || !sameFiles(d.Disk().Safe(), files) {
			t.Errorf("%s: an answer shares memory with the disk, or with what was handed in", name(x.step))
		}
	}
	if told == 0 {
		t.Error("nothing was told")
	}
}

// No two lists of one answer share any: each is written over by itself.
func TestP19_7_ListsOfOneAnswer(t *testing.T) {
	for _, x := range asked() {
		for k := range 4 {
			a := x.load(t).Do(x.step)
			want := deepCopy(a)
			switch k {
			case 0:
				fill(a.Data, 0x77)
				want.Data = a.Data
			case 1:
				fill(a.IDs, act(0x77))
				want.IDs = a.IDs
			case 2:
				fill(a.Results, res(0x77, act(0x77), 0x77))
				want.Results = a.Results
			case 3:
				fill(a.Blobs, api.Place{At: 0x77})
				want.Blobs = a.Blobs
			}
			if !sameAnswer(a, want) {
				t.Errorf("%s: two lists share memory", name(x.step))
			}
		}
	}
}

// What a list is appended to is not the next answer's.
func TestP19_7_Appended(t *testing.T) {
	g := stock(8)
	d := load(t, 8, 100000, append(g.files("a"), of("f.x", g.bundle(64)))...)
	for _, s := range []api.Step{get("a", g.id(crate)), telling("a"), verify("x"), list("x"), read("x")} {
		one := d.Do(s)
		want := deepCopy(one)
		_ = append(one.Data, 1, 2, 3)
		_ = append(one.IDs, act(9), act(9))
		_ = append(one.Results, res(9, act(9), 9))
		_ = append(one.Blobs, api.Place{At: 9})
		wantAnswer(t, d, s, want)
	}
}

// A Depot keeps its disk and its width alone: a copy of it is the same depot.
func TestP19_7_KeepsTheDiskAlone(t *testing.T) {
	d := lit(t)
	var copied depot.Depot = *d
	wantDone(t, d, write("new", "new"))
	wantAnswer(t, &copied, read("new"), api.Answer{Data: []byte("new")})
	if copied.Disk() != d.Disk() {
		t.Error("another disk")
	}
}
