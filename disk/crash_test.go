package disk_test

import (
	"fmt"
	"math"
	"math/big"
	"testing"

	"freight/api"
	"freight/disk"
)

// chapters is the disk of the chapter's Examples.
func chapters(t *testing.T) *disk.Disk {
	t.Helper()
	d := mustNew(t, 40)
	do(t, d, create("a"), appendTo("a", "crate"), syncFile("a"), syncNames(), appendTo("a", "12"), create("b"), appendTo("b", "xyz"), rename("b", "a"))
	return d
}

func TestP5_6_Picks(t *testing.T) {
	d := chapters(t)
	for _, x := range []struct {
		picks []int
		want  string
	}{
		{nil, "a=crate"},
		{[]int{}, "a=crate"},
		{[]int{0}, "a=crate"},
		{[]int{0, 0}, "a=crate"},
		{[]int{0, 2}, "a=crate12"},
		{[]int{0, 2, 99, 99, -99}, "a=crate12"},
		{[]int{1}, "a=crate b="},
		{[]int{1, 1}, "a=crate1 b="},
		{[]int{1, 0, 1}, "a=crate b=x"},
		{[]int{1, 2, 2, 7, 7}, "a=crate12 b=xy"},
		{[]int{2}, "a="},
		{[]int{2, 1}, "a=x"},
		{[]int{2, 3}, "a=xyz"},
		{[]int{2, 4}, "a="},
		{[]int{2, -1}, "a=xyz"},
		{[]int{2, -4}, "a="},
		{[]int{4, 3, 2}, "a=crate b=xy"},
		{[]int{-2, -1, -1}, "a=crate12 b=xyz"},
		{[]int{-3, -2}, "a=crate1"},
	} {
		wantLeft(t, d, x.picks, x.want)
	}
}

func TestP5_6_PicksOfAnyNumber(t *testing.T) {
	d := roomy(t)
	do(t, d, appendTo("a", "123456"), create("c"), create("d"), remove("a"), rename("b", "a"), syncNames(), rename("a", "b"), remove("d"))
	do(t, d, appendTo("b", "z"), appendTo("c", "1234"), truncate("c", 1), truncate("c", 0))
	names := []string{"a c d", "b c d", "b c"}
	own := []string{"", "1", "12", "123", "1234", "1", ""}
	for _, pick := range []int{math.MinInt, math.MinInt + 1, -1000001, -8, -7, -6, -3, -2, -1, 0, 1, 2, 3, 6, 7, 8, 1000001, math.MaxInt - 1, math.MaxInt} {
		round := func(n int) int {
			return int(new(big.Int).Mod(big.NewInt(int64(pick)), big.NewInt(int64(n))).Int64())
		}
		w := d.Twin()
		w.Crash(pick)
		if got := fmt.Sprint(w.List("")); got != "["+names[round(3)]+"]" {
			t.Errorf("Crash(%d): %s, want %s", pick, got, names[round(3)])
		}
		w = d.Twin()
		w.Crash(2, 0, pick)
		wantFiles(t, fmt.Sprint("Crash(2, 0, ", pick, ")"), w, "b=xy c="+own[round(7)])
		// A row without a change has but one end.
		w = d.Twin()
		w.Crash(0, 0, 0, pick)
		wantFiles(t, "a file without a row", w, "a=xy c= d=")
	}
}

// Each change of names is one, in their order.
func TestP5_6_TheRowOfNames(t *testing.T) {
	d := roomy(t)
	do(t, d, create("c"), rename("a", "d"), remove("b"), rename("c", "a"), create("b"), rename("d", "b"), remove("a"), create("a"))
	for pick, want := range []string{
		"a=crate b=xy",
		"a=crate b=xy c=",
		"b=xy c= d=crate",
		"c= d=crate",
		"a= d=crate",
		"a= b= d=crate",
		"a= b=crate",
		"b=crate",
		"a= b=crate",
		"a=crate b=xy",
	} {
		wantLeft(t, d, []int{pick}, want)
	}
}

// A name has its old thing again, whose bytes are as its own row says.
func TestP5_6_OldThings(t *testing.T) {
	d := roomy(t)
	do(t, d, appendTo("a", "1"), remove("a"), create("a"), appendTo("a", "new"), remove("a"), create("a"), appendTo("a", "last"), syncFile("a"))
	for _, x := range []struct {
		picks []int
		want  string
	}{
		{[]int{0}, "a=crate b=xy"},
		{[]int{0, 1}, "a=crate1 b=xy"},
		{[]int{0, 2}, "a=crate b=xy"},
		{[]int{1}, "b=xy"},
		{[]int{2, 0}, "a= b=xy"},
		{[]int{2, 2}, "a=ne b=xy"},
		{[]int{2, 3}, "a=new b=xy"},
		{[]int{3, 1}, "b=xy"},
		{[]int{4, 0}, "a=last b=xy"},
		{[]int{4, 1}, "a=last b=xy"},
	} {
		wantLeft(t, d, x.picks, x.want)
	}
	e := roomy(t)
	do(t, e, rename("a", "c"), appendTo("c", "12"), syncFile("c"), appendTo("c", "34"), rename("b", "a"), appendTo("a", "z"))
	wantLeft(t, e, nil, "a=crate12 b=xy")
	wantLeft(t, e, []int{0, 1, 1}, "a=crate123 b=xyz")
	wantLeft(t, e, []int{1, 1, 2}, "b=xyz c=crate1234")
	wantLeft(t, e, []int{2, 1, 1}, "a=xyz c=crate123")
}

// A thing without a name is gone: nothing brings it back, and its row takes no pick.
func TestP5_6_ThingsWithoutAName(t *testing.T) {
	d := roomy(t)
	do(t, d, appendTo("b", "12"), remove("a"), create("c"), appendTo("c", "cc"), remove("c"), appendTo("b", "34"))
	w := d.Twin()
	w.Crash(3, 3)
	wantFiles(t, "gone", w, "b=xy123")
	for pick := range 5 {
		wantLeft(t, w, []int{pick, pick, pick}, "b=xy123")
	}
	do(t, w, create("a"), create("c"))
	wantFiles(t, "made anew", w, "a= b=xy123 c=")
}

func TestP5_6_TornAtEachByte(t *testing.T) {
	for at := range 6 {
		d := mustLoad(t, 100, file("a", "crate"))
		do(t, d, writeAt("a", at, "1234567"))
		for pick := range 9 {
			want := []byte("crate")
			for i := range pick % 8 {
				if at+i < len(want) {
					want[at+i] = "1234567"[i]
				} else {
					want = append(want, "1234567"[i])
				}
			}
			wantLeft(t, d, []int{0, pick}, "a="+string(want))
		}
	}
}

func TestP5_6_CutsBetweenWrites(t *testing.T) {
	d := mustLoad(t, 100, file("a", "crate"))
	do(t, d, truncate("a", 3), appendTo("a", "NE"), truncate("a", 0), appendTo("a", ""), appendTo("a", "xy"), writeAt("a", 1, "YZ"))
	for pick, want := range []string{"crate", "cra", "craN", "craNE", "", "x", "xy", "xY", "xYZ", "crate"} {
		wantLeft(t, d, []int{0, pick}, "a="+want)
	}
}

// Each row begins where it was made safe.
func TestP5_6_RowsBehindASync(t *testing.T) {
	d := mustLoad(t, 100, file("a", "crate"), file("b", "xy"))
	do(t, d, appendTo("a", "12"), appendTo("b", "z"), syncFile("a"), truncate("a", 6), appendTo("a", "s"))
	wantLeft(t, d, nil, "a=crate12 b=xy")
	wantLeft(t, d, []int{0, 1}, "a=crate1 b=xy")
	wantLeft(t, d, []int{0, 2, 1}, "a=crate1s b=xyz")
	wantLeft(t, d, []int{0, 3, 2}, "a=crate12 b=xy")
	do(t, d, remove("b"), syncNames(), create("c"), syncNames(), rename("a", "b"))
	wantLeft(t, d, nil, "a=crate12 c=")
	wantLeft(t, d, []int{1, 1}, "b=crate1 c=")
	wantLeft(t, d, []int{2, 2}, "a=crate1s c=")
}

func TestP5_6_WhatIsBehindIt(t *testing.T) {
	for _, off := range []bool{false, true} {
		d := chapters(t)
		do(t, d, read("a", 0, 1), plan(2, 1, 99))
		wantAt(t, d, create("c"), api.ErrFull)
		if off {
			wantErrno(t, d, appendTo("a", "s"), api.ErrOff)
		}
		d.Crash(1, 1, 2)
		if got := all(d); got != `off false, 0 strokes, 8 of 40, files a=crate1 b=xy; safe a=crate1 b=xy; list ["a" "b"]; reads [{a 0 1}]` {
			t.Errorf("off %t: %s", off, got)
		}
		do(t, d, create("c"), create("d"), appendTo("c", "x"))
		if d.Strokes() != 3 {
			t.Errorf("off %t: %d strokes", off, d.Strokes())
		}
	}
}

func TestP5_6_CrashBehindACrash(t *testing.T) {
	d := chapters(t)
	d.Crash(1, 2, 2)
	for range 3 {
		d.Crash(5, 5, 5)
		wantFiles(t, "again", d, "a=crate12 b=xy")
		wantSafe(t, "again", d, "a=crate12 b=xy")
	}
	do(t, d, appendTo("a", "34"), rename("a", "b"))
	d.Crash(0, 1)
	wantFiles(t, "and again", d, "a=crate123 b=xy")
	do(t, d, remove("a"))
	d.Crash(1, 1)
	wantFiles(t, "and again", d, "b=xy")
}

// More bytes than the room: nothing can be made more, all else is as ever.
func TestP5_6_MoreThanTheRoom(t *testing.T) {
	d := mustLoad(t, 10, file("a", "12345678"))
	do(t, d, truncate("a", 0), create("b"), appendTo("b", "abcdefghij"), syncFile("b"))
	d.Crash(1, 0)
	wantFiles(t, "more than the room", d, "a=12345678 b=abcdefghij")
	if d.Used() != 18 || d.Room() != 10 {
		t.Errorf("%d of %d", d.Used(), d.Room())
	}
	do(t, d, create("c"), appendTo("c", ""), writeAt("a", 7, "!"), writeAt("b", 0, "ABCDEFGHIJ"), read("b", 0, 10))
	wantAt(t, d, appendTo("c", "x"), api.ErrFull)
	wantAt(t, d, writeAt("a", 7, "xy"), api.ErrFull)
	do(t, d, truncate("a", 1))
	wantAt(t, d, appendTo("c", "x"), api.ErrFull)
	do(t, d, truncate("b", 8), appendTo("c", "x"))
	wantAt(t, d, appendTo("c", "x"), api.ErrFull)
	wantFiles(t, "at the room", d, "a=1 b=ABCDEFGH c=x")
}

func TestP5_6_AsManyFilesAsThereMayBe(t *testing.T) {
	d := mustLoad(t, 1000, many(api.MaxFiles)...)
	do(t, d, remove("f000"), create("g"), appendTo("g", "xyz"))
	wantAt(t, d, create("h"), api.ErrFiles)
	picks := make([]int, api.MaxFiles+1)
	picks[0], picks[api.MaxFiles] = 2, 2
	w := d.Twin()
	w.Crash(picks...)
	if got := w.Files(); len(got) != api.MaxFiles || got[api.MaxFiles-1].Name != "g" || string(got[api.MaxFiles-1].Data) != "xy" {
		t.Errorf("%d files", len(got))
	}
	d.Crash()
	wantFiles(t, "none of it", d, show(many(api.MaxFiles)))
	wantAt(t, d, create("h"), api.ErrFiles)
}

// The picks go by the names that are left, not by those that were shown.
func TestP5_6_PicksByNames(t *testing.T) {
	d := mustNew(t, 100)
	for _, name := range []string{"b", "a", "a.", "a-", "0", "z", "_", "+"} {
		do(t, d, create(name), appendTo(name, "12345678"))
	}
	wantLeft(t, d, []int{8, 1, 2, 3, 4, 5, 6, 7, 8}, "+=1 0=12 _=123 a=1234 a-=12345 a.=123456 b=1234567 z=12345678")
	wantLeft(t, d, []int{3, 1, 2, 3}, "a=1 a.=12 b=123")
	do(t, d, rename("b", "x"), rename("a", "y"))
	wantLeft(t, d, []int{9, 1, 2, 3, 4, 5, 6, 7, 8}, "+=1 0=12 _=123 a=1234 a-=12345 a.=123456 x=1234567 z=12345678")
	wantLeft(t, d, []int{10, 1, 2, 3, 4, 5, 6, 7, 8}, "+=1 0=12 _=123 a-=1234 a.=12345 x=123456 y=1234567 z=12345678")
}

func TestP5_7_Tell(t *testing.T) {
	d := mustNew(t, 50)
	tell := func(what string, off bool, strokes, used int, files, safe string) {
		t.Helper()
		if d.Off() != off || d.Strokes() != strokes || d.Used() != used || d.Room() != 50 || show(d.Files()) != files || show(d.Safe()) != safe {
			t.Errorf("%s: %s", what, all(d))
		}
	}
	tell("new", false, 0, 0, "", "")
	do(t, d, create("b"), appendTo("b", "xyz"), create("a"), appendTo("a", "1"))
	tell("written", false, 4, 4, "a=1 b=xyz", "")
	do(t, d, syncFile("b"), syncNames())
	tell("synced", false, 6, 4, "a=1 b=xyz", "a= b=xyz")
	do(t, d, truncate("b", 1), rename("a", "c"), writeAt("c", 0, "99"))
	tell("changed", false, 9, 3, "b=x c=99", "a= b=xyz")
	do(t, d, plan(1, 0, 0))
	wantErrno(t, d, appendTo("c", "8"), api.ErrOff)
	tell("off", true, 10, 4, "b=x c=998", "a= b=xyz")
	wantErrno(t, d, appendTo("c", "8"), api.ErrOff)
	tell("still off", true, 10, 4, "b=x c=998", "a= b=xyz")
	d.Crash(1, 0, 3)
	tell("behind a crash", false, 0, 5, "b=xyz c=99", "b=xyz c=99")
	do(t, d, remove("b"))
	tell("removed", false, 1, 2, "c=99", "b=xyz c=99")
	d.Crash()
	tell("back", false, 0, 5, "b=xyz c=99", "b=xyz c=99")
}

// Telling changes nothing, however often.
func TestP5_7_TellingChangesNothing(t *testing.T) {
	d, w := chapters(t), chapters(t)
	for range 10 {
		all(d)
		d.Twin()
	}
	for pick := range 3 {
		x, y := d.Twin(), w.Twin()
		x.Crash(pick, pick, pick)
		y.Crash(pick, pick, pick)
		if all(x) != all(y) {
			t.Errorf("Crash(%d ..): %s, want %s", pick, all(x), all(y))
		}
	}
}
