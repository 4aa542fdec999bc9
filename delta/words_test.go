package delta_test

import (
	"bytes"
	"crypto/sha256"
	"encoding/binary"
	"hash/crc32"
	"slices"

	"freight/api"
)

// This is a second reading of the chapter, by other hands than the program's: sums, ids and numbers are those of the
// library.

func crcByWords(data []byte) int { return int(crc32.ChecksumIEEE(data)) }

func weakByWords(window []byte) int {
	a, b := 0, 0
	for i, x := range window {
		a += int(x)
		b += (len(window) - i) * int(x)
	}
	return a%65536 + 65536*(b%65536)
}

func idByWords(width int, row []byte) api.ID {
	var id api.ID
	full := sha256.Sum256(row)
	copy(id[:width], full[:])
	return id
}

func num(v int) []byte { return binary.AppendUvarint(nil, uint64(v)) }

func word(v int) []byte { return binary.BigEndian.AppendUint32(nil, uint32(v)) }

// sealed is a row of pieces and the sum that they have.
func sealed(pieces ...[]byte) []byte {
	body := slices.Concat(pieces...)
	return append(body, word(crcByWords(body))...)
}

// withEarlySum is a body, four bytes, and one more byte, where the four are the sum of all but the last four of them: so
// that a reader that does not ask for the end may take it. Not each body has such bytes.
func withEarlySum(body []byte) ([]byte, bool) {
	for b := range 256 {
		if sum := word(crcByWords(append(bytes.Clone(body), byte(b)))); sum[0] == byte(b) {
			return slices.Concat(body, sum, []byte{'z'}), true
		}
	}
	return nil, false
}

func signByWords(width int, base []byte, size int) (api.Signature, api.Errno) {
	if width < 1 || width > 32 || size < 16 || size > 4096 {
		return api.Signature{}, api.ErrArg
	}
	if len(base) > 131072 {
		return api.Signature{}, api.ErrLong
	}
	s := api.Signature{Width: width, Size: size, Length: len(base), Base: idByWords(width, base)}
	for rest := base; len(rest) >= size; rest = rest[size:] {
		s.Blocks = append(s.Blocks, api.Weak{Sum: weakByWords(rest[:size]), ID: idByWords(width, rest[:size])})
	}
	if len(s.Blocks) > 2048 {
		return api.Signature{}, api.ErrParts
	}
	return s, api.OK
}

func mayBeByWords(s api.Signature) bool {
	if s.Width < 1 || s.Width > 32 || s.Size < 16 || s.Size > 4096 || s.Length < 0 || s.Length > 131072 {
		return false
	}
	// As many whole blocks as there are, neither one more nor one fewer.
	if n := len(s.Blocks); n > 2048 || n*s.Size > s.Length || (n+1)*s.Size <= s.Length {
		return false
	}
	ids := []api.ID{s.Base}
	for _, b := range s.Blocks {
		if b.Sum < 0 || b.Sum > 4294967295 {
			return false
		}
		ids = append(ids, b.ID)
	}
	for _, id := range ids {
		if !bytes.Equal(id[s.Width:], make([]byte, 32-s.Width)) {
			return false
		}
	}
	return true
}

// signaturePieces are what a signature's form is made of, ahead of its sum.
func signaturePieces(s api.Signature) [][]byte {
	pieces := [][]byte{{83}, num(s.Width), num(s.Size), num(s.Length), bytes.Clone(s.Base[:s.Width])}
	for _, b := range s.Blocks {
		pieces = append(pieces, word(b.Sum), bytes.Clone(b.ID[:s.Width]))
	}
	return pieces
}

func encodeByWords(s api.Signature) ([]byte, api.Errno) {
	if !mayBeByWords(s) {
		return nil, api.ErrDelta
	}
	return sealed(signaturePieces(s)...), api.OK
}

// cursor takes what is there, and tells in the end whether all of it was.
type cursor struct {
	rest  []byte
	short bool
}

func (c *cursor) raw(n int) []byte {
	if n > len(c.rest) {
		c.short, c.rest = true, nil
		return make([]byte, min(n, 131072))
	}
	taken := c.rest[:n]
	c.rest = c.rest[n:]
	return taken
}

func (c *cursor) num() int {
	v, n := binary.Uvarint(c.rest)
	if n <= 0 || v > 2147483647 || !bytes.Equal(num(int(v)), c.rest[:n]) {
		c.short, c.rest = true, nil
		return 0
	}
	c.rest = c.rest[n:]
	return int(v)
}

func (c *cursor) id(width int) api.ID {
	var id api.ID
	copy(id[:], c.raw(width))
	return id
}

// decodeByWords reads whatever is there, and then asks whether it is written so.
func decodeByWords(data []byte) (api.Signature, api.Errno) {
	c := &cursor{rest: data}
	c.raw(1)
	s := api.Signature{Width: c.num(), Size: c.num(), Length: c.num()}
	s.Base = c.id(min(s.Width, 32))
	for range min(s.Length, 131072) / max(s.Size, 16) {
		s.Blocks = append(s.Blocks, api.Weak{Sum: int(binary.BigEndian.Uint32(c.raw(4))), ID: c.id(min(s.Width, 32))})
	}
	if form, errno := encodeByWords(s); errno != api.OK || !bytes.Equal(form, data) {
		return api.Signature{}, api.ErrDelta
	}
	return s, api.OK
}

// Kinds of instructions.
const (
	copyKind    = 1
	literalKind = 2
)

// step is an instruction.
type step struct {
	kind         int
	first, count int
	text         []byte
}

func cop(first, count int) step { return step{kind: copyKind, first: first, count: count} }

func lit(text []byte) step { return step{kind: literalKind, text: text} }

// fitsByWords tells whether there is a window of target at a place, and it fits a block.
func fitsByWords(s api.Signature, target []byte, at, block int) bool {
	if block >= len(s.Blocks) || at+s.Size > len(target) {
		return false
	}
	window := target[at : at+s.Size]
	b := s.Blocks[block]
	return weakByWords(window) == b.Sum && idByWords(s.Width, window) == b.ID
}

// leastByWords is the least block that the window at a place fits; -1, if there is none.
func leastByWords(s api.Signature, target []byte, at int) int {
	if at+s.Size > len(target) {
		return -1
	}
	sum := weakByWords(target[at : at+s.Size])
	for k, b := range s.Blocks {
		if b.Sum == sum && fitsByWords(s, target, at, k) {
			return k
		}
	}
	return -1
}

// stepsByWords goes as the chapter goes, with its letters.
func stepsByWords(s api.Signature, target []byte) []step {
	var steps []step
	for p := 0; ; {
		q, i := p, -1
		for ; q < len(target); q++ {
			if i = leastByWords(s, target, q); i >= 0 {
				break
			}
		}
		if q > p {
			steps = append(steps, lit(target[p:q]))
		}
		if i < 0 {
			return steps
		}
		n := 1
		for fitsByWords(s, target, q+n*s.Size, i+n) {
			n++
		}
		steps = append(steps, cop(i, n))
		p = q + n*s.Size
	}
}

// draft is all that a delta says.
type draft struct {
	width, size      int
	base, target     int // how many bytes they have
	baseID, targetID api.ID
	steps            []step
}

// draftOf is a delta of a base and a target by some instructions, whatever these are.
func draftOf(width, size int, base, target []byte, steps ...step) draft {
	return draft{width, size, len(base), len(target), idByWords(width, base), idByWords(width, target), steps}
}

// Which pieces of a draft stand where; behind them are those of the instructions.
const (
	pieceMark = iota
	pieceWidth
	pieceSize
	pieceBase
	pieceBaseID
	pieceTarget
	pieceTargetID
	pieceCount
	pieceSteps
)

// pieces are what a delta's form is made of, ahead of its sum; an instruction has three.
func (d draft) pieces() [][]byte {
	pieces := [][]byte{{68}, num(d.width), num(d.size), num(d.base), bytes.Clone(d.baseID[:d.width])}
	pieces = append(pieces, num(d.target), bytes.Clone(d.targetID[:d.width]), num(len(d.steps)))
	for _, s := range d.steps {
		if s.kind == copyKind {
			pieces = append(pieces, []byte{1}, num(s.first), num(s.count))
		} else {
			pieces = append(pieces, []byte{2}, num(len(s.text)), s.text)
		}
	}
	return pieces
}

func (d draft) bytes() []byte { return sealed(d.pieces()...) }

func makeByWords(s api.Signature, target []byte) ([]byte, api.Errno) {
	if !mayBeByWords(s) {
		return nil, api.ErrDelta
	}
	if len(target) > 131072 {
		return nil, api.ErrLong
	}
	d := draft{s.Width, s.Size, s.Length, len(target), s.Base, idByWords(s.Width, target), stepsByWords(s, target)}
	if len(d.steps) > 2048 {
		return nil, api.ErrParts
	}
	data := d.bytes()
	if len(data) > 131072 {
		return nil, api.ErrLong
	}
	return data, api.OK
}

// readByWords is what a delta says, and whether it is one.
func readByWords(data []byte) (draft, bool) {
	if len(data) > 131072 {
		return draft{}, false
	}
	c := &cursor{rest: data}
	mark := c.raw(1)[0]
	var d draft
	d.width, d.size, d.base = c.num(), c.num(), c.num()
	if mark != 68 || d.width < 1 || d.width > 32 || d.size < 16 || d.size > 4096 || d.base > 131072 {
		return draft{}, false
	}
	d.baseID = c.id(d.width)
	d.target = c.num()
	d.targetID = c.id(d.width)
	count := c.num()
	if d.target > 131072 || count > 2048 {
		return draft{}, false
	}
	for range count {
		s := step{kind: int(c.raw(1)[0])}
		switch s.kind {
		case copyKind:
			s.first, s.count = c.num(), c.num()
		case literalKind:
			s.text = c.raw(c.num())
		}
		d.steps = append(d.steps, s)
	}
	if c.short || !mayBeSteps(d) || !bytes.Equal(d.bytes(), data) {
		return draft{}, false
	}
	return d, true
}

// mayBeSteps tells whether the instructions are of their kinds, and make as many bytes as the target has.
func mayBeSteps(d draft) bool {
	left := d.target
	for _, s := range d.steps {
		switch {
		case s.kind == copyKind && s.count > 0 && (s.first+s.count)*d.size <= d.base:
			left -= s.count * d.size
		case s.kind == literalKind && len(s.text) > 0:
			left -= len(s.text)
		default:
			return false
		}
	}
	return left == 0
}

func applyByWords(base, data []byte) ([]byte, api.Errno) {
	if len(base) > 131072 {
		return nil, api.ErrLong
	}
	d, is := readByWords(data)
	if !is {
		return nil, api.ErrDelta
	}
	if len(base) != d.base || idByWords(d.width, base) != d.baseID {
		return nil, api.ErrBase
	}
	var made []byte
	for _, s := range d.steps {
		for k := range s.count {
			at := (s.first + k) * d.size
			made = append(made, base[at:at+d.size]...)
		}
		made = append(made, s.text...)
	}
	if idByWords(d.width, made) != d.targetID {
		return nil, api.ErrTarget
	}
	return made, api.OK
}
