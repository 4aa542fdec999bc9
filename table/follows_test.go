package table_test

import (
	"testing"

	"freight/api"
	"freight/table"
)

func TestP8_3_ThereAndBack(t *testing.T) {
	for _, results := range some() {
		wantParsed(t, mustEncode(t, results), results)
	}
	r := noise()
	for range 3000 {
		results := noiseTable(r)
		wantParsed(t, mustEncode(t, results), results)
	}
}

// wantBack asks for the same bytes again of whatever is read as a table.
func wantBack(t *testing.T, data []byte) bool {
	t.Helper()
	results, errno := table.Parse(data)
	if errno == api.OK {
		wantTable(t, results, data)
	}
	return errno == api.OK
}

func TestP8_3_BackAndThere(t *testing.T) {
	r := noise()
	tables := 0
	for range 20000 {
		if wantBack(t, bent(r)) {
			tables++
		}
	}
	if tables < 5000 || tables > 19000 {
		t.Errorf("%d of 20000 were tables", tables)
	}
}

func TestP8_3_UnlikeTablesHaveUnlikeBytes(t *testing.T) {
	seen := map[string][]api.Result{}
	for _, results := range small() {
		data := string(mustEncode(t, results))
		if other, is := seen[data]; is {
			t.Errorf("%s and %s are both % x", told(results...), told(other...), data)
		}
		seen[data] = results
	}
}

// What With and Join answer can be handed on: it is a table again.
func TestP8_5_P8_6_WhatIsAnsweredIsATable(t *testing.T) {
	r := noise()
	grown := []api.Result(nil)
	for range 3000 {
		with, errno := table.With(grown, noiseResult(r))
		if errno == api.OK {
			grown = with
		} else {
			grown = nil
		}
		wantTable(t, grown, writtenByWords(grown))
		joined, _, errno := table.Join(grown, noiseTable(r), 1+r.IntN(2))
		if errno == api.OK {
			wantTable(t, joined, writtenByWords(joined))
		}
	}
}

func FuzzAnyBytes(f *testing.F) {
	for _, results := range some() {
		f.Add(writtenByWords(results))
	}
	f.Add([]byte("\x80\x00"))
	f.Add(counted("\xff\xff\xff\xff\x07", 2))
	f.Fuzz(func(t *testing.T, data []byte) {
		wantReadAsTheWords(t, data)
		wantBack(t, data)
	})
}
