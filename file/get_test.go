package file_test

import (
	"strings"
	"testing"

	"freight/api"
	"freight/disk"
)

// noNamesOfADisk are texts that no file can have.
func noNamesOfADisk() []string {
	var names []string
	for _, name := range noNames() {
		if len(name) == 0 || len(name) > 112 || name[0] != '+' && len(name) < 112 {
			names = append(names, name)
		}
	}
	return append(names, "+A", "+a b", "+"+times(112, 'n'), times(111, 'n')+"A")
}

// namesOfADisk are names that a file can have, those among them that no Put takes.
func namesOfADisk() []string {
	return []string{"a", "0", ".", "-", "_", "+", "++", "+a", "a+", "..", "a.b-c_d+9", "abcdefghijklmnopqrstuvwxyz0123456789", times(111, 'n'), times(112, 'n'), "+" + times(111, 'n')}
}

func TestP6_2_Get(t *testing.T) {
	for _, data := range []string{"", "x", "crate", "\x00\xff", times(5000, 'c')} {
		for _, name := range namesOfADisk() {
			d := mustLoad(t, 6000, of(name, data), of("other", "o"))
			before := all(d)
			wantGet(t, d, name, data)
			wantGet(t, d, name, data)
			wantGet(t, d, "other", "o")
			if all(d) != before {
				t.Errorf("Get(%.20q): %s", name, all(d))
			}
		}
	}
}

// All bytes are those that are shown, safe or not.
func TestP6_2_WhatIsShown(t *testing.T) {
	d := mustLoad(t, 100, of("a", "crate"))
	do(t, d.WriteAt("a", 3, []byte("ne and more")))
	wantGet(t, d, "a", "crane and more")
	do(t, d.Truncate("a", 2))
	wantGet(t, d, "a", "cr")
	do(t, d.Rename("a", "+b"))
	wantGet(t, d, "+b", "cr")
	wantNoGet(t, d, "a", api.ErrNone)
	do(t, d.Remove("+b"))
	wantNoGet(t, d, "+b", api.ErrNone)
	if got := d.Strokes(); got != 4 {
		t.Errorf("%d strokes", got)
	}
}

func TestP6_2_NoNames(t *testing.T) {
	for what, d := range map[string]*disk.Disk{"nil": nil, "zero": {}, "off": off(t, of("a", "old")), "on": mustLoad(t, 100, of("a", "old"))} {
		for _, name := range noNamesOfADisk() {
			wantNothing(t, what, d, func() { wantNoGet(t, d, name, api.ErrName) })
		}
	}
}

// ErrOff comes ahead of ErrNone, and of a file that is there.
func TestP6_2_Off(t *testing.T) {
	for what, d := range map[string]*disk.Disk{"nil": nil, "zero": {}, "off": off(t, of("a", "old"), of("+a", ""))} {
		for _, name := range append(namesOfADisk(), "b") {
			wantNothing(t, what, d, func() { wantNoGet(t, d, name, api.ErrOff) })
		}
	}
}

func TestP6_2_None(t *testing.T) {
	empty, d := mustLoad(t, 100), mustLoad(t, 100, of("a1", "x"), of("+b", "y"))
	for _, name := range namesOfADisk() {
		wantNothing(t, name, empty, func() { wantNoGet(t, empty, name, api.ErrNone) })
		wantNothing(t, name, d, func() { wantNoGet(t, d, name, api.ErrNone) })
	}
	wantNoGet(t, d, "b", api.ErrNone)
	wantNoGet(t, d, "a11", api.ErrNone)
}

func TestP6_2_EachByteOfAName(t *testing.T) {
	d := mustLoad(t, 100)
	for b := range 256 {
		c := string([]byte{byte(b)})
		want := api.ErrName
		if strings.Contains("abcdefghijklmnopqrstuvwxyz0123456789.-_+", c) {
			want = api.ErrNone
		}
		for _, name := range []string{c, c + "a", "a" + c + "a", "a" + c, "+" + c} {
			wantNoGet(t, d, name, want)
			wantDrop(t, d, name, want)
		}
	}
	if d.Strokes() != 0 {
		t.Errorf("%d strokes", d.Strokes())
	}
}

// No plan is met by a Get: it has no stroke.
func TestP6_2_NoStroke(t *testing.T) {
	d := mustLoad(t, 100, of("a", "old"))
	d.Plan(api.Plan{Off: 1, From: 1, To: 9})
	for range 3 {
		wantGet(t, d, "a", "old")
		wantNoGet(t, d, "b", api.ErrNone)
		wantNoGet(t, d, "B", api.ErrName)
	}
	if d.Strokes() != 0 || d.Off() {
		t.Errorf("%s", all(d))
	}
}
