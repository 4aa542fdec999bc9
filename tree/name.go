package tree

import (
	"unicode/utf8"

	"freight/api"
)

const (
	lowest = 32 // byte that a name may have
	rubout = 127
)

// Valid tells whether a name may be an entry's.
func Valid(name string) bool {
	if len(name) == 0 || len(name) > api.MaxEntryName || name == "." || name == ".." {
		return false
	}
	for at, char := range name {
		if char < lowest || char == rubout || char == '/' {
			return false
		}
		if char == utf8.RuneError && !isWhole(name[at:]) {
			return false
		}
	}
	return true
}

// isWhole tells the character U+FFFD from bytes that are no character: a
// range over a text tells both alike, but of the latter it takes one byte.
func isWhole(rest string) bool {
	_, width := utf8.DecodeRuneInString(rest)
	return width == utf8.RuneLen(utf8.RuneError)
}
