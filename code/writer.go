package code

import "freight/api"

const pieceSize = 64

// piece is a full piece of what was written, and those ahead of it. It never
// changes, so Writers that were copied from one another may both lead to it.
type piece struct {
	bytes  [pieceSize]byte
	before *piece
}

// Writer gathers bytes; its zero value has none.
//
// The last bytes lie in the Writer itself and not behind a slice: a Writer
// that is copied as a value goes on alone.
type Writer struct {
	first
	before *piece
	last   [pieceSize]byte
	size   int
}

// Number writes a number in its shortest form.
func (w *Writer) Number(v int) {
	if w.closed() {
		return
	}
	if v < 0 || v > api.MaxNumber {
		w.refuse(api.ErrArg, w.size)
		return
	}
	for ; v >= more; v >>= groupBits {
		w.put(byte(v%more + more))
	}
	w.put(byte(v))
}

// Fixed writes a number in so many bytes.
func (w *Writer) Fixed(v, width int) {
	if w.closed() {
		return
	}
	if width < 1 || width > maxWidth || v < 0 || v>>(8*width) != 0 {
		w.refuse(api.ErrArg, w.size)
		return
	}
	for i := width - 1; i >= 0; i-- {
		w.put(byte(v >> (8 * i)))
	}
}

// Raw writes bytes as they are.
func (w *Writer) Raw(data []byte) {
	if w.closed() {
		return
	}
	w.put(data...)
}

// Text writes how many bytes there are, and these.
func (w *Writer) Text(data []byte) {
	w.Number(len(data))
	w.Raw(data)
}

// Data is what was written, if all could be.
func (w *Writer) Data() ([]byte, api.Errno) {
	if w.closed() {
		return nil, api.ErrArg
	}
	data := make([]byte, w.size)
	at := w.size - w.size%pieceSize
	copy(data[at:], w.last[:])
	for p := w.before; p != nil; p = p.before {
		at -= pieceSize
		copy(data[at:], p.bytes[:])
	}
	return data, api.OK
}

func (w *Writer) closed() bool { return w == nil || w.spoilt() }

func (w *Writer) put(data ...byte) {
	for len(data) > 0 {
		n := copy(w.last[w.size%pieceSize:], data)
		w.size += n
		data = data[n:]
		if w.size%pieceSize == 0 {
			w.before = &piece{bytes: w.last, before: w.before}
		}
	}
}
