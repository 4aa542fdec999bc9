package code

import (
	"bytes"

	"freight/api"
)

// Reader goes through bytes.
type Reader struct {
	first
	data []byte
	at   int
}

// Read is a reader at the beginning of bytes.
func Read(data []byte) *Reader { return &Reader{data: bytes.Clone(data)} }

// Number reads a number in its shortest form.
func (r *Reader) Number() int {
	if r.closed() {
		return 0
	}
	v, n, errno := shortest(r.data[r.at:])
	if errno != api.OK {
		r.refuse(errno, r.at)
		return 0
	}
	r.at += n
	return v
}

// Fixed reads a number of so many bytes.
func (r *Reader) Fixed(width int) int {
	if r.closed() {
		return 0
	}
	if width < 1 || width > maxWidth {
		r.refuse(api.ErrArg, r.at)
		return 0
	}
	v := 0
	for _, b := range r.take(width, r.at) {
		v = v<<8 | int(b)
	}
	return v
}

// Raw reads so many bytes.
func (r *Reader) Raw(n int) []byte {
	if r.closed() {
		return nil
	}
	if n < 0 {
		r.refuse(api.ErrArg, r.at)
		return nil
	}
	return bytes.Clone(r.take(n, r.at))
}

// Text reads what Writer.Text writes, of at most so many bytes.
func (r *Reader) Text(most int) []byte {
	if r.closed() {
		return nil
	}
	began := r.at
	if most < 0 {
		r.refuse(api.ErrArg, began)
		return nil
	}
	n := r.Number()
	if r.spoilt() {
		return nil
	}
	if n > most {
		r.refuse(api.ErrLong, began)
		return nil
	}
	return bytes.Clone(r.take(n, began))
}

// Left is how many bytes are left.
func (r *Reader) Left() int {
	if r.closed() {
		return 0
	}
	return len(r.data) - r.at
}

// Err is the first error, and where it was.
func (r *Reader) Err() (api.Errno, int) {
	if r == nil {
		return api.OK, 0
	}
	return r.errno, r.place
}

func (r *Reader) closed() bool { return r == nil || r.spoilt() }

// take is the next n bytes, the Reader's own; ErrShort, of the call that
// began there, if fewer are left.
func (r *Reader) take(n, began int) []byte {
	if n > r.Left() {
		r.refuse(api.ErrShort, began)
		return nil
	}
	taken := r.data[r.at : r.at+n]
	r.at += n
	return taken
}

// shortest is the number that rest begins with, and how many bytes it has.
func shortest(rest []byte) (int, int, api.Errno) {
	v, n := 0, 0
groups:
	for {
		switch {
		case n == maxGroups:
			return 0, 0, api.ErrForm
		case n == len(rest):
			return 0, 0, api.ErrShort
		case rest[n] < more:
			break groups
		}
		v += int(rest[n]-more) << (groupBits * n)
		n++
	}
	v += int(rest[n]) << (groupBits * n)
	if v > api.MaxNumber || n > 0 && rest[n] == 0 {
		return 0, 0, api.ErrForm
	}
	return v, n + 1, api.OK
}
