package tree_test

import (
	"bytes"
	"encoding/hex"
	"fmt"
	"math/rand/v2"
	"slices"
	"strings"
	"testing"

	"freight/api"
	"freight/tree"
)

// noise is the same row of numbers in every run.
func noise() *rand.Rand { return rand.New(rand.NewPCG(7, 2114)) }

func unhex(t testing.TB, text string) []byte {
	t.Helper()
	data, err := hex.DecodeString(strings.ReplaceAll(text, " ", ""))
	if err != nil {
		t.Fatal(err)
	}
	return data
}

// idOf is the id of 32 bytes b.
func idOf(b byte) api.ID { return api.ID(bytes.Repeat([]byte{b}, 32)) }

// row is the bytes of idOf.
func row(b byte) string { return strings.Repeat(string([]byte{b}), 32) }

func file(name string) api.Entry {
	return api.Entry{Name: name, Kind: api.KindFile, ID: idOf(7)}
}

func files(names ...string) []api.Entry {
	var entries []api.Entry
	for _, name := range names {
		entries = append(entries, file(name))
	}
	return entries
}

// numbered are n names of some bytes, rising.
func numbered(n, length int) []string {
	var names []string
	for i := range n {
		names = append(names, fmt.Sprintf("%0*d", length, i))
	}
	return names
}

// longest has as many entries, and as long names, as a tree may have.
func longest() []api.Entry {
	entries := files(numbered(32, 32)...)
	for i := range entries {
		entries[i].Kind = 1 + i%3
		entries[i].ID = idOf(byte(255 - i))
	}
	return entries
}

// noiseID has some bytes of all kinds.
func noiseID(r *rand.Rand) (id api.ID) {
	for i := range id {
		id[i] = byte(r.Uint32())
	}
	return id
}

// noiseName is a valid name, mostly a short one.
func noiseName(r *rand.Rand) string {
	chars := []rune{'a', 'b', '-', '.', ' ', '~', 0x80, 0xe9, 0x7ff, 0x800, 0xfffd, 0xffff, 0x10000, 0x10ffff}
	for {
		var name []rune
		for range 1 + r.IntN(1+r.IntN(32)) {
			name = append(name, chars[r.IntN(len(chars))])
		}
		if text := string(name); validByWords(text) {
			return text
		}
	}
}

// noiseTree is any tree.
func noiseTree(r *rand.Rand) []api.Entry {
	var names []string
	for range r.IntN(1 + r.IntN(33)) {
		names = append(names, noiseName(r))
	}
	slices.Sort(names)
	entries := files(slices.Compact(names)...)
	for i := range entries {
		entries[i].Kind = 1 + r.IntN(3)
		entries[i].ID = noiseID(r)
	}
	return entries
}

func mustEncode(t testing.TB, entries []api.Entry) []byte {
	t.Helper()
	data, errno := tree.Encode(entries)
	if errno != api.OK {
		t.Fatalf("Encode(%v): %d", entries, errno)
	}
	return data
}

func wantEncoded(t testing.TB, entries []api.Entry, want []byte) {
	t.Helper()
	data, errno := tree.Encode(entries)
	if errno != api.OK || !bytes.Equal(data, want) {
		t.Errorf("Encode(%v): % x, %d; want % x, OK", entries, data, errno, want)
	}
}

func wantNotEncoded(t testing.TB, what string, entries []api.Entry) {
	t.Helper()
	data, errno := tree.Encode(entries)
	if errno != api.ErrTree || len(data) != 0 {
		t.Errorf("%s: Encode(%v): % x, %d; want nothing, ErrTree", what, entries, data, errno)
	}
}

func wantParsed(t testing.TB, data []byte, want []api.Entry) {
	t.Helper()
	entries, errno := tree.Parse(data)
	if errno != api.OK || !slices.Equal(entries, want) {
		t.Errorf("Parse(% x): %v, %d; want %v, OK", data, entries, errno, want)
	}
}

func wantNotParsed(t testing.TB, what string, data []byte) {
	t.Helper()
	entries, errno := tree.Parse(data)
	if errno != api.ErrTree || len(entries) != 0 {
		t.Errorf("%s: Parse(% x): %v, %d; want nothing, ErrTree", what, data, entries, errno)
	}
}

// wantAsTheWords holds Parse of any bytes against the words of the chapter.
func wantAsTheWords(t testing.TB, data []byte) {
	t.Helper()
	if want, is := readByWords(data); is {
		wantParsed(t, data, want)
	} else {
		wantNotParsed(t, "by the words no tree", data)
	}
}
