package bundle

import (
	"slices"

	"freight/api"
	"freight/block"
	"freight/code"
	"freight/digest"
	"freight/table"
)

// look is what one call has found out so far. A part is read to its end ahead
// of asking for the next one: read may answer the same memory each time.
type look struct {
	total, width int
	read         func(at, n int) ([]byte, error)
	trailer      trailer
	face         api.Face
	row          int // how many bytes it has
}

// canHold is what the numbers say, ahead of any byte.
func canHold(total, width int) api.Errno {
	switch {
	case !isWidth(width):
		return api.ErrArg
	case total > api.MaxFile:
		return api.ErrBundleLong
	case total < minBundle:
		return api.ErrBundle
	}
	return api.OK
}

func (l *look) takeTrailer() api.Errno {
	at := l.total - trailerBytes
	data, errno := l.fetch(at, trailerBytes)
	if errno != api.OK {
		return errno
	}
	t, letters := readTrailer(data)
	switch {
	case letters != trailerLetters, t.total != l.total:
		return api.ErrBundle
	case t.entries.at < headBytes, t.entries.n < minEntries:
		return api.ErrBundle
	case t.index.at != t.entries.at+t.entries.n, t.index.n < minIndex:
		return api.ErrBundle
	case at != t.index.at+t.index.n:
		return api.ErrBundle
	}
	l.trailer = t
	l.face.Entries, l.face.Index = t.entries.sum, t.index.sum
	return api.OK
}

func (l *look) takeHead() api.Errno {
	data, errno := l.fetch(0, headBytes)
	if errno != api.OK {
		return errno
	}
	r := code.Read(data)
	letters := string(r.Raw(len(headLetters)))
	width, size := r.Fixed(widthWidth), r.Fixed(countWidth)
	if letters != headLetters || width != l.width || !isSize(size) {
		return api.ErrBundle
	}
	l.face.Width, l.face.Size = width, size
	return api.OK
}

func (l *look) takeEntries() api.Errno {
	r, errno := l.open(l.trailer.entries)
	if errno != api.OK {
		return errno
	}
	if errno := l.takeResults(r); errno != api.OK {
		return errno
	}
	return l.takeBlobs(r)
}

// takeResults need not ask whether the number of results is whole: a reader
// that is spoilt answers noughts, and takeBlobs says ErrBundle of it.
func (l *look) takeResults(r *code.Reader) api.Errno {
	count := r.Fixed(countWidth)
	if count > api.MaxActions {
		return api.ErrMany
	}
	results, errno := readResults(r, count)
	if errno != api.OK {
		return api.ErrBundle
	}
	l.face.Results = results
	return api.OK
}

func (l *look) takeBlobs(r *code.Reader) api.Errno {
	count := r.Fixed(countWidth)
	if count > api.MaxBundle {
		return api.ErrMany
	}
	places := make([]api.Place, count)
	for k := range places {
		places[k] = readPlace(r, l.width, l.row)
		l.row += places[k].N
	}
	switch {
	case !isAtEnd(r), !rise(places), slices.ContainsFunc(places, isTooGreat):
		return api.ErrBundle
	case l.row > api.MaxRow:
		return api.ErrBundleLong
	}
	l.face.Blobs = places
	return api.OK
}

func (l *look) takeIndex() api.Errno {
	r, errno := l.open(l.trailer.index)
	if errno != api.OK {
		return errno
	}
	count := r.Fixed(countWidth)
	if r.Left() != count*blockBytes {
		return api.ErrBundle
	}
	blocks := make([]api.Block, count)
	next := headBytes
	for k := range blocks {
		blocks[k] = readBlock(r, next)
		next += blocks[k].Packed
	}
	if !block.Valid(blocks, l.row, l.face.Size) || next != l.trailer.entries.at {
		return api.ErrBundle
	}
	l.face.Blocks = blocks
	return api.OK
}

// open asks for a part that has a sum.
func (l *look) open(p part) (*code.Reader, api.Errno) {
	data, errno := l.fetch(p.at, p.n)
	if errno != api.OK {
		return nil, errno
	}
	if code.Sum(data) != p.sum {
		return nil, api.ErrSum
	}
	return code.Read(data), api.OK
}

func (l *look) fetch(at, n int) ([]byte, api.Errno) {
	if l.read == nil {
		return nil, api.ErrBundle
	}
	data, err := l.read(at, n)
	if err != nil {
		return nil, numberOf(err)
	}
	if len(data) != n {
		return nil, api.ErrBundle
	}
	return data, api.OK
}

func readTrailer(data []byte) (trailer, string) {
	r := code.Read(data)
	var t trailer
	t.entries, t.index = readPart(r), readPart(r)
	t.total = r.Fixed(wordWidth)
	return t, string(r.Raw(len(trailerLetters)))
}

func readPart(r *code.Reader) part {
	var p part
	p.at, p.n, p.sum = r.Fixed(wordWidth), r.Fixed(wordWidth), r.Fixed(wordWidth)
	return p
}

// readResults puts ahead of them the number that a table's form begins with.
func readResults(r *code.Reader, count int) ([]api.Result, api.Errno) {
	var w code.Writer
	w.Number(count)
	w.Raw(r.Raw(count * resultBytes))
	return table.Parse(written(&w))
}

func readPlace(r *code.Reader, width, at int) api.Place {
	place := api.Place{At: at}
	copy(place.ID[:], r.Raw(width))
	place.N = r.Fixed(countWidth)
	return place
}

func readBlock(r *code.Reader, at int) api.Block {
	b := api.Block{At: at}
	b.Packed, b.Raw = r.Fixed(countWidth), r.Fixed(countWidth)
	b.Sum = r.Fixed(wordWidth)
	return b
}

// isAtEnd tells whether all bytes were read, and no more of them were asked for.
func isAtEnd(r *code.Reader) bool {
	errno, _ := r.Err()
	return errno == api.OK && r.Left() == 0
}

func rise(places []api.Place) bool {
	for k := 1; k < len(places); k++ {
		if digest.Compare(places[k-1].ID, places[k].ID) >= 0 {
			return false
		}
	}
	return true
}

func isTooGreat(place api.Place) bool { return place.N > api.MaxBlob }
