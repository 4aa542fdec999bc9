package file_test

import (
	"fmt"
	"testing"

	"freight/api"
	"freight/disk"
)

// several are files whose names begin in many ways, not in order.
func several() []api.FileBytes {
	return []api.FileBytes{of("b", "4"), of("ab", "2"), of("+b", "6"), of("a", "1"), of("+a", "5"), of("abc", "3"), of("+", ""), of("a.b", "7")}
}

// without are these files but those whose names begin so.
func without(d *disk.Disk, prefix string) (kept string, gone int) {
	var stay []api.FileBytes
	for _, f := range d.Files() {
		if len(f.Name) >= len(prefix) && f.Name[:len(prefix)] == prefix {
			gone++
		} else {
			stay = append(stay, f)
		}
	}
	return show(stay), gone
}

func TestP6_4_Clean(t *testing.T) {
	for prefix, gone := range map[string]int{"+": 3, "a": 4, "ab": 2, "abc": 1, "abcd": 0, "b": 1, "": 8, "a.": 1, "+a": 1, "c": 0, "bb": 0, "++": 0} {
		d := mustLoad(t, 100, several()...)
		stay, n := without(d, prefix)
		if n != gone {
			t.Fatalf("%q: %d, want %d", prefix, n, gone)
		}
		strokes := gone + 1
		if gone == 0 {
			strokes = 0
		}
		wantClean(t, d, prefix, api.OK)
		wantDisk(t, fmt.Sprintf("Clean(%q)", prefix), d, strokes, stay, stay)
		wantNothing(t, "once more", d, func() { wantClean(t, d, prefix, api.OK) })
	}
}

// Any text may be a prefix: of one that no name can have there is none, and no stroke.
func TestP6_4_PrefixesOfNone(t *testing.T) {
	for _, prefix := range []string{"A", " ", "a ", "\x00", "\xff", "ä", "No name", "+A", times(112, 'n'), times(113, 'n'), times(1<<20, 'a'), "a\x00"} {
		d := mustLoad(t, 100, several()...)
		d.Plan(api.Plan{Off: 1})
		wantNothing(t, fmt.Sprintf("Clean(%.20q)", prefix), d, func() { wantClean(t, d, prefix, api.OK) })
	}
	d := mustLoad(t, 100)
	d.Plan(api.Plan{Off: 1})
	wantNothing(t, "an empty disk", d, func() {
		wantClean(t, d, "", api.OK)
		wantClean(t, d, "+", api.OK)
	})
}

// No stroke: what is not safe stays so.
func TestP6_4_NoneIsNoSync(t *testing.T) {
	d := mustLoad(t, 100, of("a", "1"))
	do(t, d.Create("b"), d.Remove("a"))
	wantNothing(t, "Clean(c)", d, func() { wantClean(t, d, "c", api.OK) })
	wantDisk(t, "Clean(c)", d, 2, "b=", "a=1")
}

func TestP6_4_LongNames(t *testing.T) {
	long := times(112, 'n')
	d := mustLoad(t, 100, of(long, "1"), of(long[1:], "2"))
	wantClean(t, d, long, api.OK)
	wantDisk(t, "Clean", d, 2, long[1:]+"=2", long[1:]+"=2")
	wantClean(t, d, long[1:], api.OK)
	wantDisk(t, "Clean", d, 4, "", "")
}

func TestP6_4_AllOfADisk(t *testing.T) {
	d := mustLoad(t, 100, many(256)...)
	wantClean(t, d, "m00", api.OK)
	if len(d.Files()) != 246 || d.Strokes() != 11 {
		t.Errorf("%d files, %d strokes", len(d.Files()), d.Strokes())
	}
	wantClean(t, d, "", api.OK)
	wantDisk(t, "Clean", d, 258, "", "")
}

// Those that are shown are removed, safe or not, and none else.
func TestP6_4_WhatIsShown(t *testing.T) {
	d := mustLoad(t, 100, of("+a", "1"), of("+b", "2"), of("c", "3"))
	do(t, d.Rename("+b", "b"), d.Create("+d"), d.Append("+d", []byte("4")), d.Append("c", []byte("!")))
	wantClean(t, d, "+", api.OK)
	wantDisk(t, "Clean", d, 7, "b=2 c=3!", "b=2 c=3")
}

func TestP6_4_Off(t *testing.T) {
	for what, d := range map[string]*disk.Disk{"nil": nil, "zero": {}, "off": off(t, several()...), "off, empty": off(t)} {
		for _, prefix := range []string{"", "+", "a", "abcd", "A", "\xff", times(1<<16, 'n')} {
			wantNothing(t, what, d, func() { wantClean(t, d, prefix, api.ErrOff) })
		}
	}
}

// By rising names: each stroke at which the power goes off tells which are gone.
func TestP6_4_ThePowerGoesOff(t *testing.T) {
	for prefix, rising := range map[string][]string{
		"":   {"+", "+a", "+b", "a", "a.b", "ab", "abc", "b"},
		"+":  {"+", "+a", "+b"},
		"a":  {"a", "a.b", "ab", "abc"},
		"ab": {"ab", "abc"},
		"b":  {"b"},
	} {
		for at := 1; at <= len(rising)+1; at++ {
			d := mustLoad(t, 100, several()...)
			before := show(d.Files())
			hand := d.Twin()
			for _, name := range rising[:min(at, len(rising))] {
				do(t, hand.Remove(name))
			}
			d.Plan(api.Plan{Off: at})
			wantClean(t, d, prefix, api.ErrOff)
			what := fmt.Sprintf("Clean(%q), off at %d", prefix, at)
			wantDisk(t, what, d, at, show(hand.Files()), before)
			if rows(d) != rows(hand) || !d.Off() {
				t.Errorf("%s: other rows than those of single removes", what)
			}
			wantNothing(t, what+", once more", d, func() { wantClean(t, d, prefix, api.ErrOff) })
		}
		d := mustLoad(t, 100, several()...)
		d.Plan(api.Plan{Off: len(rising) + 2})
		wantClean(t, d, prefix, api.OK)
		if d.Off() || d.Strokes() != len(rising)+1 {
			t.Errorf("Clean(%q): %s", prefix, all(d))
		}
	}
}
