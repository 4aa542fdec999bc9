package disk_test

import (
	"fmt"
	"testing"

	"freight/api"
)

func TestExamples_Shown(t *testing.T) {
	d := chapters(t)
	wantFiles(t, "d", d, "a=xyz")
	wantSafe(t, "d", d, "a=crate")
	if d.Used() != 3 || d.Strokes() != 8 {
		t.Errorf("%s", all(d))
	}
}

func TestExamples_Crash(t *testing.T) {
	d := chapters(t)
	wantLeft(t, d, nil, "a=crate")
	wantLeft(t, d, []int{0, 1}, "a=crate1")
	wantLeft(t, d, []int{1, 2, 3}, "a=crate12 b=xyz")
	wantLeft(t, d, []int{2, 2}, "a=xy")
	wantLeft(t, d, []int{3, 1}, "a=crate1")
	wantLeft(t, d, []int{-1, 7}, "a=xyz")
}

func TestExamples_Plan(t *testing.T) {
	d := chapters(t)
	w := d.Twin()
	do(t, w, plan(2, 0, 0), appendTo("a", "q"))
	wantErrno(t, w, appendTo("a", "rs"), api.ErrOff)
	wantErrno(t, w, appendTo("a", "t"), api.ErrOff)
	wantFiles(t, "Off 2", w, "a=xyzqrs")
	w = d.Twin()
	do(t, w, plan(0, 1, 2))
	wantErrno(t, w, create("c"), api.ErrFull)
	do(t, w, syncFile("a"), create("c"))
}

func TestExamples_Refused(t *testing.T) {
	d := chapters(t)
	w := d.Twin()
	wantErrno(t, w, appendTo("a", times(38, 'x')), api.ErrFull)
	do(t, w, writeAt("a", 0, times(40, 'x')))
	wantErrno(t, w, writeAt("a", 0, times(41, 'x')), api.ErrFull)
	wantErrno(t, d, create("A"), api.ErrName)
	wantErrno(t, d, create("a"), api.ErrThere)
	wantErrno(t, d, rename("x", "a"), api.ErrNone)
	wantErrno(t, d, writeAt("a", 4, ""), api.ErrBeyond)
	wantErrno(t, d, truncate("a", 4), api.ErrBeyond)
}

func TestExamples_Read(t *testing.T) {
	d := chapters(t)
	if data, errno := d.Read("a", 1, 2); string(data) != "yz" || errno != api.OK {
		t.Errorf("%q, %d", data, errno)
	}
	wantErrno(t, d, read("a", 1, 3), api.ErrBeyond)
	if got := fmt.Sprint(d.Reads()); got != "[{a 1 2}]" {
		t.Errorf("Reads: %s", got)
	}
}
