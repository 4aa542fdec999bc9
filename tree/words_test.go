package tree_test

import (
	"strings"
	"unicode/utf8"

	"freight/api"
)

// validByWords is P7.1, word by word, with the numbers written out.
func validByWords(name string) bool {
	for i := range len(name) {
		if name[i] < 32 || name[i] == 127 {
			return false
		}
	}
	return len(name) >= 1 && len(name) <= 32 &&
		utf8.ValidString(name) &&
		!strings.Contains(name, "/") &&
		name != "." && name != ".."
}

// areTreeByWords is P7.2.
func areTreeByWords(entries []api.Entry) bool {
	if len(entries) > 32 {
		return false
	}
	for i, e := range entries {
		if !validByWords(e.Name) || e.Kind < 1 || e.Kind > 3 {
			return false
		}
		if i > 0 && strings.Compare(entries[i-1].Name, e.Name) >= 0 {
			return false
		}
	}
	return true
}

// writtenByWords is P7.3, of entries that are a tree: each number there is
// below 128, and so is one byte.
func writtenByWords(entries []api.Entry) []byte {
	data := []byte{84, byte(len(entries))}
	for _, e := range entries {
		data = append(data, byte(e.Kind), byte(len(e.Name)))
		data = append(data, e.Name...)
		data = append(data, e.ID[:]...)
	}
	return data
}

// readByWords is P7.4: it cuts the bytes as if each number were one byte, and
// asks whether what it has cut is a tree that is written so.
func readByWords(data []byte) ([]api.Entry, bool) {
	var entries []api.Entry
	rest := data
	if len(rest) >= 2 {
		rest = rest[2:]
	}
	for len(rest) >= 2 && len(rest) >= 34+int(rest[1]) {
		end := 34 + int(rest[1])
		entries = append(entries, api.Entry{
			Name: string(rest[2 : end-32]),
			Kind: int(rest[0]),
			ID:   api.ID(rest[end-32 : end]),
		})
		rest = rest[end:]
	}
	if !areTreeByWords(entries) || string(writtenByWords(entries)) != string(data) {
		return nil, false
	}
	return entries, true
}
