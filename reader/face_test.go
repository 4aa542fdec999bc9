package reader_test

import (
	"fmt"
	"testing"

	"freight/api"
	"freight/bundle"
	"freight/reader"
)

// bundles are some of many forms, with their widths.
func bundles(t testing.TB) []struct {
	what  string
	width int
	data  []byte
} {
	results, blobs := stock(3)
	many := inOrder(256, 20, 1, 16, 33, 0, 15, 17, 31, 5, 64, 2)
	long := make([][]byte, 16)
	for i := range long {
		long[i] = append(times(4095, byte(i)), byte(i/3))
	}
	var results32 []api.Result
	for i := range 32 {
		results32 = append(results32, res(byte(i), api.ID{1, byte(i)}, 8*i))
	}
	return []struct {
		what  string
		width int
		data  []byte
	}{
		{"of nothing", 1, mustMake(t, 1, nil, nil, 16)},
		{"of results alone", 32, mustMake(t, 32, results32, nil, 4096)},
		{"of no bytes", 2, mustMake(t, 2, nil, [][]byte{nil}, 16)},
		{"of one byte", 32, mustMake(t, 32, nil, [][]byte{{7}}, 16)},
		{"of a need", 3, mustMake(t, 3, results, blobs, 16)},
		{"of a need, in one block", 3, mustMake(t, 3, results, blobs, 4096)},
		{"of many blobs", 8, mustMake(t, 8, results32, many, 16)},
		{"of many blobs, size 17", 31, mustMake(t, 31, results, many, 17)},
		{"of many blobs, size 64", 31, mustMake(t, 31, results, many, 64)},
		{"of a full row", 32, mustMake(t, 32, nil, long, 4096)},
		{"of a full row, size 16", 32, mustMake(t, 32, nil, long, 16)},
	}
}

func TestP13_2_AsParseTells(t *testing.T) {
	for _, b := range bundles(t) {
		d := mustLoad(t, of("f.b", b.data))
		r := mustOpen(t, d, "f.b", b.width)
		want, err := bundle.Parse(b.data, b.width)
		if err != nil || r.Name() != "f.b" || !likeFace(r.Face(), want) {
			t.Errorf("%s: %q, %v, want %v", b.what, r.Name(), r.Face(), want)
		}
	}
}

// Whatever becomes of the file, and whatever was asked since.
func TestP13_2_WhateverBecomesOfTheFile(t *testing.T) {
	for _, b := range bundles(t) {
		s := shelve(t, b.width, b.data)
		want, _ := bundle.Parse(b.data, b.width)
		for _, x := range []struct {
			what string
			do   func()
		}{
			{"nothing", func() {}},
			{"blobs were read", func() { s.wantLike(t, b.what) }},
			{"its last byte turned", func() { s.turn(len(b.data) - 1) }},
			{"its first byte turned", func() { s.turn(0) }},
			{"one byte more", func() { s.disk.Append("f.b", []byte{1}) }},
			{"cut", func() { s.disk.Truncate("f.b", 9) }},
			{"another bundle", func() { lay(s.disk, "f.b", stocked(t, 8, 64)) }},
			{"another name", func() { s.disk.Rename("f.b", "f.c") }},
			{"no file at all", func() { s.disk.Remove("f.c") }},
			{"no power", func() { powerOff(s.disk) }},
			{"a crash", func() { s.disk.Crash(7, 7, 7) }},
		} {
			x.do()
			s.disk.Look()
			if s.reader.Name() != "f.b" || !likeFace(s.reader.Face(), want) {
				t.Errorf("%s: %s: %q, %v", b.what, x.what, s.reader.Name(), s.reader.Face())
			}
			wantReads(t, fmt.Sprint(b.what, ": ", x.what, ": Name and Face"), s.disk, nil)
		}
	}
}

func TestP13_2_NoReader(t *testing.T) {
	var none *reader.Reader
	for what, r := range map[string]*reader.Reader{"nil": none, "zero": {}} {
		if r.Name() != "" || !likeFace(r.Face(), api.Face{}) {
			t.Errorf("%s: %q, %v", what, r.Name(), r.Face())
		}
	}
}
