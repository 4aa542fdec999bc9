package delta

import (
	"freight/api"
	"freight/code"
)

// strict reads what must be so and not otherwise, and gives up by panic where
// it is not. A piece that is not there is not asked for at once: it is read as
// noughts, and then there is no sum at the end.
type strict struct{ *code.Reader }

func open(data []byte, mark int) strict {
	if len(data) > api.MaxFile {
		giveUp()
	}
	r := strict{code.Read(data)}
	r.must(r.Fixed(markWidth) == mark)
	return r
}

// giveUp is caught by the face that was asked to read.
func giveUp() { panic(api.ErrDelta) }

func (r strict) must(holds bool) {
	if !holds {
		giveUp()
	}
}

func (r strict) number(least, most int) int {
	v := r.Number()
	r.must(within(v, least, most))
	return v
}

func (r strict) width() int { return r.number(1, api.MaxWidth) }

func (r strict) size() int { return r.number(api.MinBlock, api.MaxBlock) }

func (r strict) length() int { return r.number(0, api.MaxFile) }

func (r strict) id(width int) api.ID {
	var id api.ID
	copy(id[:], r.Raw(width))
	return id
}

// end takes the sum of all the bytes ahead of it; nothing may stand behind it.
func (r strict) end(data []byte) {
	r.must(r.Left() == sumWidth)
	r.must(r.Fixed(sumWidth) == code.Sum(data[:len(data)-sumWidth]))
}
