package disk_test

import (
	"fmt"
	"math"
	"testing"

	"freight/api"
	"freight/disk"
)

// roomy is a disk with a=crate, b=xy, all safe, and room.
func roomy(t *testing.T) *disk.Disk {
	t.Helper()
	return mustLoad(t, 1000, file("a", "crate"), file("b", "xy"))
}

func TestP5_4_Off(t *testing.T) {
	for _, off := range []int{math.MinInt, -1, 0, 1, 2, 3, 10, 11, math.MaxInt} {
		d := roomy(t)
		do(t, d, appendTo("a", "s"), syncNames(), plan(off, 0, 0))
		for stroke := 1; stroke <= 10; stroke++ {
			want := api.OK
			if off >= 1 && stroke >= off {
				want = api.ErrOff
			}
			wantErrno(t, d, appendTo("a", "x"), want)
			if d.Off() != (want == api.ErrOff) {
				t.Errorf("Off %d, stroke %d: off %t", off, stroke, d.Off())
			}
		}
		if strokes := 2 + 10; off < 1 || off > 10 {
			if d.Strokes() != strokes {
				t.Errorf("Off %d: %d strokes", off, d.Strokes())
			}
		} else if d.Strokes() != 2+off {
			t.Errorf("Off %d: %d strokes", off, d.Strokes())
		}
	}
}

func TestP5_4_NoRoom(t *testing.T) {
	ends := []int{math.MinInt, -1, 0, 1, 2, 3, 5, 6, 7, math.MaxInt}
	for _, from := range ends {
		for _, to := range ends {
			for kind := range 3 {
				d := roomy(t)
				do(t, d, syncNames(), plan(0, from, to))
				for stroke := 1; stroke <= 6; stroke++ {
					c := []call{create(fmt.Sprint("f", stroke)), writeAt("a", 0, ""), appendTo("a", "")}[kind]
					if from <= stroke && stroke <= to {
						wantAt(t, d, c, api.ErrFull)
					} else {
						do(t, d, c)
					}
				}
			}
		}
	}
}

// There is room for all but Create, WriteAt and Append; these strokes count as well.
func TestP5_4_NoRoomForWhat(t *testing.T) {
	for _, c := range []call{create("c"), writeAt("a", 0, "x"), writeAt("a", 5, "x"), writeAt("a", 1, ""), appendTo("a", "x"), appendTo("a", "")} {
		d := roomy(t)
		do(t, d, plan(0, 1, 1))
		wantAt(t, d, c, api.ErrFull)
		do(t, d, c)
	}
	for _, c := range []call{truncate("a", 2), truncate("a", 5), rename("a", "b"), rename("a", "c"), rename("a", "a"), remove("b"), syncFile("a"), syncNames()} {
		d := roomy(t)
		do(t, d, plan(0, 1, 2), c)
		wantAt(t, d, create("n"), api.ErrFull)
		do(t, d, create("n"))
	}
}

// What is refused ahead of its stroke, and what only looks, counts for no plan.
func TestP5_4_WhatIsNoStroke(t *testing.T) {
	d := roomy(t)
	do(t, d, plan(3, 2, 2))
	for range 5 {
		for _, c := range []call{create("a"), create("A"), writeAt("a", 9, ""), appendTo("z", ""), truncate("a", 9), rename("z", "a"), remove("z"), syncFile("z"), read("a", 9, 9)} {
			c.on(d)
		}
		do(t, d, read("a", 0, 5), size("a"), list(""), look())
		d.Twin()
		all(d)
	}
	do(t, d, syncNames())
	wantAt(t, d, appendTo("a", "x"), api.ErrFull)
	wantErrno(t, d, appendTo("a", "x"), api.ErrOff)
	wantFiles(t, "Off 3", d, "a=cratex b=xy")
}

// What is refused at its stroke is counted.
func TestP5_4_RefusedIsCounted(t *testing.T) {
	d := roomy(t)
	do(t, d, plan(4, 1, 2))
	wantAt(t, d, create("c"), api.ErrFull)
	wantAt(t, d, create("c"), api.ErrFull)
	wantAt(t, d, appendTo("a", times(1000, 'x')), api.ErrFull)
	wantErrno(t, d, create("c"), api.ErrOff)
}

func TestP5_4_PlanBehindPlan(t *testing.T) {
	d := roomy(t)
	do(t, d, plan(2, 1, 1))
	wantAt(t, d, create("c"), api.ErrFull)
	do(t, d, plan(3, 2, 2), create("c"))
	wantAt(t, d, create("d"), api.ErrFull)
	do(t, d, plan(0, 0, 0), create("d"), create("e"), create("f"), plan(2, 0, 0), create("g"))
	wantErrno(t, d, create("h"), api.ErrOff)
	wantFiles(t, "plans", d, "a=crate b=xy c= d= e= f= g= h=")
	// The same plan once more counts from 1 on again.
	e := roomy(t)
	for range 4 {
		do(t, e, plan(2, 0, 0), syncNames())
	}
	wantErrno(t, e, syncNames(), api.ErrOff)
}

func TestP5_4_PlanWhileOff(t *testing.T) {
	for _, late := range []call{plan(0, 0, 0), plan(1, 1, 1), plan(5, 0, 9)} {
		d := roomy(t)
		do(t, d, plan(1, 0, 0))
		wantErrno(t, d, create("c"), api.ErrOff)
		wantAhead(t, d, late, api.OK)
		wantAhead(t, d, create("d"), api.ErrOff)
		d.Crash(1)
		for range 10 {
			do(t, d, appendTo("c", ""))
		}
	}
}

func TestP5_4_NoPlanBehindACrash(t *testing.T) {
	d := roomy(t)
	do(t, d, plan(3, 1, 9))
	wantAt(t, d, create("c"), api.ErrFull)
	d.Crash()
	for i := range 12 {
		do(t, d, create(fmt.Sprint("f", i)))
	}
}

func TestP5_5_OffAtEachCall(t *testing.T) {
	for _, x := range []struct {
		c          call
		files      string
		names, own []string // what the picks of names, and then of a's bytes, leave
	}{
		{create("c"), "a=crate b=xy c=", []string{"a=crate b=xy", "a=crate b=xy c="}, nil},
		{writeAt("a", 1, "RA"), "a=cRAte b=xy", nil, []string{"a=crate b=xy", "a=cRate b=xy", "a=cRAte b=xy"}},
		{writeAt("a", 4, "ES"), "a=cratES b=xy", nil, []string{"a=crate b=xy", "a=cratE b=xy", "a=cratES b=xy"}},
		{appendTo("a", "12"), "a=crate12 b=xy", nil, []string{"a=crate b=xy", "a=crate1 b=xy", "a=crate12 b=xy"}},
		{appendTo("a", ""), "a=crate b=xy", nil, []string{"a=crate b=xy", "a=crate b=xy"}},
		{truncate("a", 2), "a=cr b=xy", nil, []string{"a=crate b=xy", "a=cr b=xy"}},
		{truncate("a", 5), "a=crate b=xy", nil, []string{"a=crate b=xy", "a=crate b=xy"}},
		{rename("a", "b"), "b=crate", []string{"a=crate b=xy", "b=crate"}, nil},
		{rename("a", "c"), "b=xy c=crate", []string{"a=crate b=xy", "b=xy c=crate"}, nil},
		{rename("a", "a"), "a=crate b=xy", []string{"a=crate b=xy", "a=crate b=xy"}, nil},
		{remove("a"), "b=xy", []string{"a=crate b=xy", "b=xy"}, nil},
	} {
		d := roomy(t)
		do(t, d, plan(1, 0, 0))
		wantErrno(t, d, x.c, api.ErrOff)
		wantFiles(t, x.c.text, d, x.files)
		wantSafe(t, x.c.text, d, "a=crate b=xy")
		if !d.Off() || d.Strokes() != 1 {
			t.Errorf("%s: %s", x.c.text, all(d))
		}
		for pick, want := range x.names {
			wantLeft(t, d, []int{pick}, want)
		}
		for pick, want := range x.own {
			wantLeft(t, d, []int{0, pick}, want)
		}
	}
}

// A sync at whose stroke the power goes off has done nothing.
func TestP5_5_OffAtASync(t *testing.T) {
	for _, c := range []call{syncFile("a"), syncNames()} {
		d := roomy(t)
		do(t, d, appendTo("a", "12"), create("c"), plan(1, 0, 0))
		wantErrno(t, d, c, api.ErrOff)
		wantFiles(t, c.text, d, "a=crate12 b=xy c=")
		wantSafe(t, c.text, d, "a=crate b=xy")
		wantLeft(t, d, nil, "a=crate b=xy")
		wantLeft(t, d, []int{0, 1}, "a=crate1 b=xy")
		wantLeft(t, d, []int{1, 2}, "a=crate12 b=xy c=")
	}
}

// Refused at the stroke at which the power goes off: ErrOff, and nothing is done.
func TestP5_5_OffAndRefused(t *testing.T) {
	for _, x := range []struct {
		p call
		c call
	}{
		{plan(1, 1, 1), create("c")},
		{plan(1, 1, 1), writeAt("a", 0, "X")},
		{plan(1, 1, 1), appendTo("a", "X")},
		{plan(1, 1, 1), appendTo("a", "")},
		{plan(1, 0, 0), appendTo("a", times(994, 'x'))},
		{plan(1, 0, 0), writeAt("a", 2, times(997, 'x'))},
		{plan(1, 0, 0), writeAt("b", 0, times(996, 'x'))},
	} {
		d := roomy(t)
		do(t, d, x.p)
		wantAt(t, d, x.c, api.ErrOff)
		if !d.Off() {
			t.Errorf("%s: not off", x.c.text)
		}
		for pick := range 4 {
			wantLeft(t, d, []int{pick, pick, pick, pick}, "a=crate b=xy")
		}
	}
	d := mustLoad(t, 1000, many(api.MaxFiles)...)
	do(t, d, plan(1, 0, 0))
	wantAt(t, d, create("g"), api.ErrOff)
	wantLeft(t, d, []int{1}, show(many(api.MaxFiles)))
}

// The power goes off at a stroke in a row: what came ahead of it stays in its row.
func TestP5_5_TheLastOfItsRow(t *testing.T) {
	d := roomy(t)
	do(t, d, appendTo("a", "1"), remove("b"), plan(3, 0, 0), appendTo("a", "2"), create("c"))
	wantErrno(t, d, appendTo("a", "34"), api.ErrOff)
	wantFiles(t, "cut off", d, "a=crate1234 c=")
	for pick, want := range []string{"a=crate b=xy", "a=crate1 b=xy", "a=crate12 b=xy", "a=crate123 b=xy", "a=crate1234 b=xy"} {
		wantLeft(t, d, []int{0, pick}, want)
	}
	wantLeft(t, d, []int{1, 4}, "a=crate1234")
	wantLeft(t, d, []int{2, 4}, "a=crate1234 c=")
}

func TestP5_5_EachCallBehindIt(t *testing.T) {
	for _, last := range changing() {
		d := roomy(t)
		do(t, d, read("a", 1, 2), plan(1, 0, 0))
		wantErrno(t, d, last, api.ErrOff)
		for _, c := range append(changing(), create(""), create("a"), writeAt("a", -1, ""), appendTo("z", ""), truncate("a", 99), rename("", ""), rename("a", "a"), remove("z"), syncFile(""), read("a", 0, 1), read("", 0, 1), read("z", 0, 1), read("a", -1, 1), size("a"), size(""), size("z")) {
			wantAhead(t, d, c, api.ErrOff)
		}
		if len(d.List("")) != 0 || len(d.List("a")) != 0 {
			t.Errorf("behind %s: List", last.text)
		}
		d.Crash()
		wantFiles(t, "behind it", d, "a=crate b=xy")
		do(t, d, create("c"))
	}
}
