package bundle

import (
	"slices"

	"freight/api"
	"freight/block"
	"freight/code"
	"freight/table"
)

const (
	headLetters    = "frt"
	trailerLetters = "trf"

	headBytes    = 6
	trailerBytes = 31
	minEntries   = 2 * countWidth // no results and no blobs
	minIndex     = countWidth     // no blocks
	minBundle    = headBytes + minEntries + minIndex + trailerBytes

	widthWidth = 1 // bytes of a width
	countWidth = 2 // of how many there are, and of how many bytes a blob or a block has
	wordWidth  = 4 // of a sum, of a place in the bundle

	resultBytes = 32 + 32 + 1              // of a result in ENTRIES, as in a table's form
	blockBytes  = 2*countWidth + wordWidth // of a block in INDEX
)

// part is where a part of a bundle begins, how many bytes it has, and their sum.
type part struct{ at, n, sum int }

// trailer says where the parts are that say what lies in the others.
type trailer struct {
	entries, index part
	total          int
}

func isWidth(width int) bool { return width >= 1 && width <= api.MaxWidth }

func isSize(size int) bool { return size >= api.MinBlock && size <= api.MaxBlock }

// write is the bundle of a face that has no blocks as yet, and of its row. Both
// are such that Pack takes them.
func write(face api.Face, row []byte) []byte {
	packed, blocks, _ := block.Pack(row, face.Size)
	face.Blocks = blocks
	head, entries, index := writeHead(face), writeEntries(face), writeIndex(face)
	var t trailer
	t.entries = part{at: len(head) + len(packed), n: len(entries), sum: code.Sum(entries)}
	t.index = part{at: t.entries.at + t.entries.n, n: len(index), sum: code.Sum(index)}
	t.total = t.index.at + t.index.n + trailerBytes
	return slices.Concat(head, packed, entries, index, writeTrailer(t))
}

func writeHead(face api.Face) []byte {
	var w code.Writer
	w.Raw([]byte(headLetters))
	w.Fixed(face.Width, widthWidth)
	w.Fixed(face.Size, countWidth)
	return written(&w)
}

func writeEntries(face api.Face) []byte {
	var w code.Writer
	w.Fixed(len(face.Results), countWidth)
	w.Raw(formOf(face.Results))
	w.Fixed(len(face.Blobs), countWidth)
	for _, place := range face.Blobs {
		w.Raw(place.ID[:face.Width])
		w.Fixed(place.N, countWidth)
	}
	return written(&w)
}

// formOf is a table's form without the number that it begins with.
func formOf(results []api.Result) []byte {
	form, _ := table.Encode(results)
	r := code.Read(form)
	r.Number()
	return r.Raw(r.Left())
}

func writeIndex(face api.Face) []byte {
	var w code.Writer
	w.Fixed(len(face.Blocks), countWidth)
	for _, b := range face.Blocks {
		w.Fixed(b.Packed, countWidth)
		w.Fixed(b.Raw, countWidth)
		w.Fixed(b.Sum, wordWidth)
	}
	return written(&w)
}

func writeTrailer(t trailer) []byte {
	var w code.Writer
	for _, p := range []part{t.entries, t.index} {
		w.Fixed(p.at, wordWidth)
		w.Fixed(p.n, wordWidth)
		w.Fixed(p.sum, wordWidth)
	}
	w.Fixed(t.total, wordWidth)
	w.Raw([]byte(trailerLetters))
	return written(&w)
}

// written asks for no error: no number that comes so far is too great for its
// bytes.
func written(w *code.Writer) []byte {
	data, _ := w.Data()
	return data
}
