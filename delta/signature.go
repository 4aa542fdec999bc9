package delta

import (
	"freight/api"
	"freight/code"
	"freight/digest"
	"freight/roll"
)

const (
	signatureMark = 83 // the byte that a signature's form begins with
	markWidth     = 1
	sumWidth      = 4
	maxSum        = 4294967295
)

func within(v, least, most int) bool { return v >= least && v <= most }

func isWidth(width int) bool { return within(width, 1, api.MaxWidth) }

func isSize(size int) bool { return within(size, api.MinBlock, api.MaxBlock) }

// isID tells whether nothing but noughts stands behind the width, so that the
// bytes ahead of it are all there is to write.
func isID(width int, id api.ID) bool {
	for _, b := range id[width:] {
		if b != 0 {
			return false
		}
	}
	return true
}

func weakOf(width int, block []byte) api.Weak {
	return api.Weak{Sum: roll.Sum(block), ID: digest.Of(width, block)}
}

func isWeak(width int, w api.Weak) bool {
	return within(w.Sum, 0, maxSum) && isID(width, w.ID)
}

// mayBe does not ask whether some base has the signature: that its ids are
// those of bytes nobody can tell by the ids alone.
func mayBe(s api.Signature) bool {
	if !isWidth(s.Width) || !isSize(s.Size) || !within(s.Length, 0, api.MaxFile) {
		return false
	}
	if len(s.Blocks) != s.Length/s.Size || len(s.Blocks) > api.MaxParts {
		return false
	}
	for _, w := range s.Blocks {
		if !isWeak(s.Width, w) {
			return false
		}
	}
	return isID(s.Width, s.Base)
}

func writeSignature(s api.Signature) []byte {
	var w code.Writer
	w.Fixed(signatureMark, markWidth)
	w.Number(s.Width)
	w.Number(s.Size)
	w.Number(s.Length)
	w.Raw(s.Base[:s.Width])
	for _, b := range s.Blocks {
		w.Fixed(b.Sum, sumWidth)
		w.Raw(b.ID[:s.Width])
	}
	return summed(&w)
}

// summed is all that was written, and its sum. No number that comes so far is
// too great for its bytes, so the Writer has refused nothing.
func summed(w *code.Writer) []byte {
	body, _ := w.Data()
	w.Fixed(code.Sum(body), sumWidth)
	data, _ := w.Data()
	return data
}

// readSignature gives up by panic, if the bytes are no signature's form.
func readSignature(data []byte) api.Signature {
	r := open(data, signatureMark)
	var s api.Signature
	s.Width, s.Size, s.Length = r.width(), r.size(), r.length()
	count := s.Length / s.Size
	r.must(count <= api.MaxParts)
	s.Base = r.id(s.Width)
	s.Blocks = make([]api.Weak, count)
	for k := range s.Blocks {
		s.Blocks[k].Sum = r.Fixed(sumWidth)
		s.Blocks[k].ID = r.id(s.Width)
	}
	r.end(data)
	return s
}
