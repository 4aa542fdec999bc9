package tree_test

import (
	"bytes"
	"slices"
	"testing"

	"freight/api"
	"freight/tree"
)

// spareEntries are entries with spare room behind them that is not empty.
func spareEntries(entries []api.Entry) []api.Entry {
	whole := append(slices.Clone(entries), files("spare", "spare", "/")...)
	return whole[:len(entries)]
}

func spareBytes(data []byte) []byte {
	whole := append(bytes.Clone(data), "spare room"...)
	return whole[:len(data)]
}

func scribbleEntries(entries []api.Entry) {
	for i := range entries[:cap(entries)] {
		entries[:cap(entries)][i] = api.Entry{Name: "scribble", Kind: 99, ID: idOf(0xee)}
	}
}

func scribbleBytes(data []byte) {
	for i := range data[:cap(data)] {
		data[:cap(data)][i] = 0xee
	}
}

// handedIn are trees and what is none.
func handedIn() [][]api.Entry {
	return append(some(), files("b", "a"), files(numbered(33, 2)...), []api.Entry{{Name: "a", Kind: 4}}, files("a", "/"))
}

func TestP7_5_EntriesAreUntouched(t *testing.T) {
	for _, entries := range handedIn() {
		in := spareEntries(entries)
		before := slices.Clone(in[:cap(in)])
		tree.Encode(in)
		if !slices.Equal(in[:cap(in)], before) {
			t.Errorf("Encode: what was handed in is %v, was %v", in[:cap(in)], before)
		}
	}
}

func TestP7_5_BytesAreUntouched(t *testing.T) {
	for _, entries := range handedIn() {
		for _, data := range [][]byte{writtenByWords(entries), writtenByWords(entries)[1:], append(writtenByWords(entries), 0)} {
			in := spareBytes(data)
			before := bytes.Clone(in[:cap(in)])
			tree.Parse(in)
			if !bytes.Equal(in[:cap(in)], before) {
				t.Errorf("Parse: what was handed in is % x, was % x", in[:cap(in)], before)
			}
		}
	}
}

func TestP7_5_EntriesAreNotKept(t *testing.T) {
	for _, entries := range some() {
		in := spareEntries(entries)
		data := mustEncode(t, in)
		scribbleEntries(in)
		if !bytes.Equal(data, writtenByWords(entries)) {
			t.Errorf("Encode(%v), written over behind it: % x", entries, data)
		}
	}
}

func TestP7_5_BytesAreNotKept(t *testing.T) {
	for _, want := range some() {
		in := spareBytes(writtenByWords(want))
		entries, errno := tree.Parse(in)
		scribbleBytes(in)
		if errno != api.OK || !slices.Equal(entries, want) {
			t.Errorf("Parse, written over behind it: %v, %d; want %v", entries, errno, want)
		}
	}
}

func TestP7_5_AnswersAreAlone(t *testing.T) {
	for _, entries := range some() {
		in := spareEntries(entries)
		first, second := mustEncode(t, in), mustEncode(t, in)
		scribbleBytes(first)
		if !bytes.Equal(second, writtenByWords(entries)) {
			t.Errorf("Encode: an answer is another, since the one ahead of it was written over: % x", second)
		}
		scribbleBytes(second)
		wantEncoded(t, in, writtenByWords(entries))

		data := spareBytes(writtenByWords(entries))
		one, _ := tree.Parse(data)
		two, _ := tree.Parse(data)
		scribbleEntries(one)
		if !slices.Equal(two, entries) {
			t.Errorf("Parse: an answer is another, since the one ahead of it was written over: %v", two)
		}
		scribbleEntries(two)
		wantParsed(t, data, entries)
		if !bytes.Equal(data, writtenByWords(entries)) || !slices.Equal(in, entries) {
			t.Errorf("what was handed in is changed by what was written into an answer: %v", entries)
		}
	}
}
