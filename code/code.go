// Package code: numbers and bytes in one form; a sum of 32 bits: see DOC.md, chapter 1.
package code

import "freight/api"

const (
	groupBits = 7              // of a number's bits in one byte of its shortest form
	more      = 1 << groupBits // added to a byte behind which another group comes
	maxGroups = 5              // bytes of the shortest form of MaxNumber
	maxWidth  = 4              // bytes of the widest fixed number
)

// first is what went wrong first, and the place at which that call began:
// whoever writes or reads goes on, and asks for it once.
type first struct {
	errno api.Errno
	place int
}

func (f *first) spoilt() bool { return f.errno != api.OK }

func (f *first) refuse(errno api.Errno, place int) {
	if f.spoilt() {
		return
	}
	f.errno, f.place = errno, place
}
