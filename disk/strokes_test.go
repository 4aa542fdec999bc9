package disk_test

import (
	"fmt"
	"math"
	"testing"

	"freight/api"
	"freight/disk"
)

// small is a disk of 10 bytes of room with a=crate, b=xy, all safe.
func small(t *testing.T) *disk.Disk {
	t.Helper()
	return mustLoad(t, 10, file("a", "crate"), file("b", "xy"))
}

// changing are the calls of P5.3, each one carried out on small.
func changing() []call {
	return []call{create("c"), writeAt("a", 1, "RATES"), appendTo("a", "12"), truncate("a", 2), rename("a", "b"), remove("a"), syncFile("a"), syncNames()}
}

func TestP5_3_WhatEachCallDoes(t *testing.T) {
	for _, x := range []struct {
		c    call
		want string
	}{
		{create("c"), "a=crate b=xy c="},
		{create("0"), "0= a=crate b=xy"},
		{writeAt("a", 0, "C"), "a=Crate b=xy"},
		{writeAt("a", 1, "RAT"), "a=cRATe b=xy"},
		{writeAt("a", 4, "E"), "a=cratE b=xy"},
		{writeAt("a", 0, "PLATE"), "a=PLATE b=xy"},
		{writeAt("a", 5, "s"), "a=crates b=xy"},
		{writeAt("a", 3, "TES"), "a=craTES b=xy"},
		{writeAt("a", 0, "PALLETS!"), "a=PALLETS! b=xy"},
		{writeAt("a", 0, ""), "a=crate b=xy"},
		{writeAt("a", 5, ""), "a=crate b=xy"},
		{writeAt("b", 2, "\x00\xff"), "a=crate b=xy\x00\xff"},
		{appendTo("a", "s"), "a=crates b=xy"},
		{appendTo("b", "z12"), "a=crate b=xyz12"},
		{appendTo("a", ""), "a=crate b=xy"},
		{truncate("a", 0), "a= b=xy"},
		{truncate("a", 1), "a=c b=xy"},
		{truncate("a", 4), "a=crat b=xy"},
		{truncate("a", 5), "a=crate b=xy"},
		{rename("a", "c"), "b=xy c=crate"},
		{rename("a", "b"), "b=crate"},
		{rename("b", "a"), "a=xy"},
		{rename("a", "a"), "a=crate b=xy"},
		{remove("a"), "b=xy"},
		{remove("b"), "a=crate"},
		{syncFile("a"), "a=crate b=xy"},
		{syncNames(), "a=crate b=xy"},
	} {
		d := small(t)
		do(t, d, x.c)
		wantFiles(t, x.c.text, d, x.want)
		wantSafe(t, x.c.text, d, "a=crate b=xy")
		if d.Strokes() != 1 || d.Off() {
			t.Errorf("%s: %s", x.c.text, all(d))
		}
	}
}

func TestP5_3_RefusedAhead(t *testing.T) {
	noName, gone := "a b", "zz"
	for _, x := range []struct {
		c    call
		want api.Errno
	}{
		{create(noName), api.ErrName},
		{create(""), api.ErrName},
		{create("a"), api.ErrThere},
		{create("b"), api.ErrThere},
		{writeAt(noName, 0, "x"), api.ErrName},
		{writeAt(noName, -1, "x"), api.ErrName},
		{writeAt(gone, 0, "x"), api.ErrNone},
		{writeAt(gone, 1, "x"), api.ErrNone},
		{writeAt(gone, 0, times(99, 'x')), api.ErrNone},
		{writeAt("a", -1, "x"), api.ErrBeyond},
		{writeAt("a", -1, ""), api.ErrBeyond},
		{writeAt("a", 6, "x"), api.ErrBeyond},
		{writeAt("a", 6, ""), api.ErrBeyond},
		{writeAt("a", 6, times(99, 'x')), api.ErrBeyond},
		{writeAt("a", math.MaxInt, "x"), api.ErrBeyond},
		{writeAt("a", math.MinInt, times(99, 'x')), api.ErrBeyond},
		{appendTo(noName, "x"), api.ErrName},
		{appendTo(noName, times(99, 'x')), api.ErrName},
		{appendTo(gone, ""), api.ErrNone},
		{appendTo(gone, times(99, 'x')), api.ErrNone},
		{truncate(noName, -1), api.ErrName},
		{truncate(gone, 0), api.ErrNone},
		{truncate(gone, -1), api.ErrNone},
		{truncate("a", -1), api.ErrBeyond},
		{truncate("a", 6), api.ErrBeyond},
		{truncate("a", math.MaxInt), api.ErrBeyond},
		{truncate("a", math.MinInt), api.ErrBeyond},
		{rename(noName, "c"), api.ErrName},
		{rename("a", noName), api.ErrName},
		{rename("a", ""), api.ErrName},
		{rename("", "a"), api.ErrName},
		{rename(noName, noName), api.ErrName},
		{rename(gone, noName), api.ErrName},
		{rename(gone, "a"), api.ErrNone},
		{rename(gone, "c"), api.ErrNone},
		{rename(gone, gone), api.ErrNone},
		{remove(noName), api.ErrName},
		{remove(gone), api.ErrNone},
		{syncFile(noName), api.ErrName},
		{syncFile(gone), api.ErrNone},
	} {
		wantAhead(t, small(t), x.c, x.want)
		// The plan, and a disk that is full, speak at the stroke alone.
		d := small(t)
		do(t, d, appendTo("b", "zzz"), plan(1, 1, 1))
		wantAhead(t, d, x.c, x.want)
		if d.Off() {
			t.Errorf("%s: refused ahead of its stroke, and the power went off", x.c.text)
		}
		// ErrOff is the first one.
		do(t, d, plan(1, 0, 0))
		wantErrno(t, d, syncNames(), api.ErrOff)
		wantAhead(t, d, x.c, api.ErrOff)
	}
}

func TestP5_3_Names(t *testing.T) {
	eachText(func(text string, is bool) {
		none, there := api.ErrName, api.ErrName
		if is {
			none, there = api.ErrNone, api.OK
		}
		d := mustNew(t, 10)
		for _, c := range []call{writeAt(text, 0, "x"), appendTo(text, "x"), truncate(text, 0), rename(text, "new"), remove(text), syncFile(text), read(text, 0, 0), size(text)} {
			wantAhead(t, d, c, none)
		}
		for _, c := range []call{create(text), writeAt(text, 0, "x"), appendTo(text, "x"), truncate(text, 1), syncFile(text), read(text, 0, 1), size(text), rename(text, text), rename(text, "new")} {
			wantErrno(t, d, c, there)
		}
		if !is {
			do(t, d, create("new"))
		}
		wantErrno(t, d, rename("new", text), there)
		wantErrno(t, d, remove(text), there)
	})
}

func TestP5_3_NamesThatWereGivenAway(t *testing.T) {
	d := small(t)
	do(t, d, rename("a", "c"))
	wantAhead(t, d, rename("a", "d"), api.ErrNone)
	wantAhead(t, d, remove("a"), api.ErrNone)
	wantAhead(t, d, syncFile("a"), api.ErrNone)
	wantAhead(t, d, create("c"), api.ErrThere)
	do(t, d, create("a"), appendTo("a", "new"), rename("c", "d"), rename("d", "a"))
	wantFiles(t, "given back", d, "a=crate b=xy")
	do(t, d, rename("a", "c"), rename("b", "a"), rename("c", "b"))
	wantFiles(t, "changed about", d, "a=xy b=crate")
	do(t, d, appendTo("a", "z"), truncate("b", 2))
	wantFiles(t, "written to", d, "a=xyz b=cr")
	do(t, d, remove("a"), create("a"))
	wantFiles(t, "made anew", d, "a= b=cr")
}

// What a file had that is renamed over, or removed, is room again.
func TestP5_3_RoomThatIsFreeAgain(t *testing.T) {
	for _, free := range []call{rename("b", "a"), remove("a"), truncate("a", 0)} {
		d := small(t)
		do(t, d, appendTo("b", "123"))
		wantAt(t, d, appendTo("b", "z"), api.ErrFull)
		do(t, d, free)
		if d.Used() != 5 {
			t.Errorf("behind %s: %d used", free.text, d.Used())
		}
		name := d.List("")[len(d.List(""))-1]
		wantAt(t, d, appendTo(name, "123456"), api.ErrFull)
		do(t, d, appendTo(name, "12345"))
		wantAt(t, d, appendTo(name, "1"), api.ErrFull)
	}
}

func TestP5_3_Full(t *testing.T) {
	for _, x := range []struct {
		c    call
		want api.Errno
	}{
		{appendTo("a", "123"), api.OK},
		{appendTo("a", "1234"), api.ErrFull},
		{appendTo("a", times(100000, 'x')), api.ErrFull},
		{writeAt("a", 5, "123"), api.OK},
		{writeAt("a", 5, "1234"), api.ErrFull},
		{writeAt("a", 0, "12345678"), api.OK},
		{writeAt("a", 0, "123456789"), api.ErrFull},
		{writeAt("a", 4, "1234"), api.OK},
		{writeAt("a", 4, "12345"), api.ErrFull},
		{writeAt("b", 1, "1234"), api.OK},
		{writeAt("b", 1, "12345"), api.ErrFull},
	} {
		d := small(t)
		if x.want == api.OK {
			do(t, d, x.c)
			if d.Used() != 10 {
				t.Errorf("%s: %d used", x.c.text, d.Used())
			}
		} else {
			wantAt(t, d, x.c, x.want)
		}
	}
	d := small(t)
	do(t, d, appendTo("a", "123"))
	for _, c := range []call{create("c"), appendTo("c", ""), writeAt("a", 8, ""), writeAt("a", 7, "x"), writeAt("a", 0, "12345678"), rename("a", "d"), syncFile("d"), syncNames(), truncate("d", 8)} {
		do(t, d, c)
	}
	for _, c := range []call{appendTo("c", "x"), writeAt("d", 8, "x"), writeAt("d", 0, "123456789"), writeAt("b", 1, "yz")} {
		wantAt(t, d, c, api.ErrFull)
	}
}

func TestP5_3_Files(t *testing.T) {
	d := mustNew(t, 1)
	for i := range api.MaxFiles {
		do(t, d, create(fmt.Sprint("f", i)))
	}
	wantAhead(t, d, create("f7"), api.ErrThere)
	wantAt(t, d, create("g"), api.ErrFiles)
	// ErrFiles is ahead of ErrFull.
	do(t, d, plan(0, 1, 9))
	wantAt(t, d, create("g"), api.ErrFiles)
	do(t, d, plan(0, 0, 0), appendTo("f0", "x"))
	wantAt(t, d, create("g"), api.ErrFiles)
	do(t, d, rename("f0", "h"))
	wantAt(t, d, create("g"), api.ErrFiles)
	do(t, d, rename("f1", "f2"), create("g"))
	wantAt(t, d, create("i"), api.ErrFiles)
	do(t, d, remove("g"), create("i"))
	wantAt(t, d, create("g"), api.ErrFiles)
	if len(d.Files()) != api.MaxFiles {
		t.Errorf("%d files", len(d.Files()))
	}
}

// What is not shown counts for nothing, be it safe or not.
func TestP5_3_WhatIsShownCounts(t *testing.T) {
	d := mustLoad(t, 300, many(api.MaxFiles)...)
	do(t, d, remove("f000"), create("g"), remove("g"), create("h"))
	wantAt(t, d, create("i"), api.ErrFiles)
	do(t, d, appendTo("h", times(45, 'x')))
	wantAt(t, d, appendTo("h", "y"), api.ErrFull)
}

func TestP5_3_SyncOfBytesAndOfNames(t *testing.T) {
	d := mustNew(t, 20)
	do(t, d, create("a"), appendTo("a", "crate"), create("b"), appendTo("b", "xy"))
	wantSafe(t, "nothing synced", d, "")
	do(t, d, syncFile("a"))
	wantSafe(t, "the bytes alone", d, "")
	do(t, d, syncNames())
	wantSafe(t, "and the names", d, "a=crate b=")
	do(t, d, appendTo("a", "s"), truncate("b", 0))
	wantSafe(t, "changed", d, "a=crate b=")
	do(t, d, syncNames())
	wantSafe(t, "the names alone", d, "a=crate b=")
	do(t, d, syncFile("a"))
	wantSafe(t, "a", d, "a=crates b=")
	do(t, d, appendTo("b", "z"), syncFile("b"), rename("b", "a"))
	wantSafe(t, "b", d, "a=crates b=z")
	do(t, d, syncNames())
	wantSafe(t, "b's is a", d, "a=z")
	do(t, d, remove("a"), syncNames())
	wantSafe(t, "none", d, "")
}

// The bytes of a thing are safe whatever its name was when they were synced.
func TestP5_3_SyncUnderAnotherName(t *testing.T) {
	d := small(t)
	do(t, d, appendTo("a", "s"), rename("a", "c"), syncFile("c"))
	wantFiles(t, "renamed", d, "b=xy c=crates")
	wantSafe(t, "the old name is safe, with the new bytes", d, "a=crates b=xy")
	do(t, d, writeAt("c", 0, "C"), create("a"), appendTo("a", "n"), syncFile("a"))
	wantSafe(t, "another thing of that name", d, "a=crates b=xy")
	do(t, d, syncNames())
	wantSafe(t, "the names too", d, "a=n b=xy c=crates")
}

// A name to itself: no change of the row, so that no pick counts it.
func TestP5_3_RenameToItself(t *testing.T) {
	d := small(t)
	do(t, d, remove("b"), rename("a", "a"), rename("a", "a"), create("c"))
	if d.Strokes() != 4 {
		t.Errorf("%d strokes", d.Strokes())
	}
	for pick, want := range []string{"a=crate b=xy", "a=crate", "a=crate c=", "a=crate b=xy", "a=crate"} {
		wantLeft(t, d, []int{pick}, want)
	}
}

// A cut to the size has a unit, a write of no bytes has none.
func TestP5_3_ChangesThatChangeNothing(t *testing.T) {
	d := small(t)
	do(t, d, truncate("a", 5), appendTo("a", ""), writeAt("a", 3, ""), appendTo("a", "s"), truncate("a", 6), writeAt("a", 6, ""))
	for pick, want := range []string{"crate", "crate", "crates", "crates", "crate", "crate", "crates"} {
		wantLeft(t, d, []int{0, pick}, "a="+want+" b=xy")
	}
}

func TestP5_3_StrokesAreCounted(t *testing.T) {
	for i, one := range changing() {
		for j, other := range changing() {
			d := mustLoad(t, 30, file("a", "crate"), file("b", "xy"), file("d", ""))
			do(t, d, one)
			errno, _ := other.on(d)
			want := 2
			if errno == api.ErrThere || errno == api.ErrNone || errno == api.ErrBeyond {
				want = 1
			} else if errno != api.OK {
				t.Errorf("%s, %s: %d", one.text, other.text, errno)
			}
			if d.Strokes() != want {
				t.Errorf("%d, %d: %s, %s: %d strokes, want %d", i, j, one.text, other.text, d.Strokes(), want)
			}
		}
	}
}
