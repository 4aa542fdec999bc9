package delta

import (
	"freight/api"
	"freight/code"
	"freight/digest"
)

const (
	deltaMark   = 68 // the byte that a delta's form begins with
	kindWidth   = 1
	kindRun     = 1 // a COPY
	kindLiteral = 2
)

// instruction is one piece of a target: a run or a literal.
type instruction interface {
	// length is how many bytes of the target it makes, the blocks being of that size.
	length(size int) int
}

// run is a COPY: count blocks of the base, from the first one on.
type run struct{ first, count int }

// literal is a LITERAL: these bytes.
type literal []byte

func (r run) length(size int) int { return r.count * size }

func (l literal) length(int) int { return len(l) }

// seal is what a row of bytes is known by.
type seal struct {
	length int
	id     api.ID
}

func sealOf(width int, row []byte) seal { return seal{len(row), digest.Of(width, row)} }

// order is all that a delta says.
type order struct {
	width, size  int
	base, target seal
	list         []instruction
}

func writeOrder(o order) []byte {
	var w code.Writer
	w.Fixed(deltaMark, markWidth)
	w.Number(o.width)
	w.Number(o.size)
	for _, s := range []seal{o.base, o.target} {
		w.Number(s.length)
		w.Raw(s.id[:o.width])
	}
	w.Number(len(o.list))
	for _, i := range o.list {
		writeInstruction(&w, i)
	}
	return summed(&w)
}

func writeInstruction(w *code.Writer, i instruction) {
	switch i := i.(type) {
	case run:
		w.Fixed(kindRun, kindWidth)
		w.Number(i.first)
		w.Number(i.count)
	case literal:
		w.Fixed(kindLiteral, kindWidth)
		w.Text(i)
	}
}

// do makes the target out of a base that has the order's length.
func (o order) do(base []byte) []byte {
	made := make([]byte, 0, o.target.length)
	for _, i := range o.list {
		switch i := i.(type) {
		case run:
			from := i.first * o.size
			made = append(made, base[from:from+i.length(o.size)]...)
		case literal:
			made = append(made, i...)
		}
	}
	return made
}

// readOrder gives up by panic, if the bytes are no delta.
func readOrder(data []byte) order {
	r := open(data, deltaMark)
	var o order
	o.width, o.size = r.width(), r.size()
	o.base, o.target = r.seal(o.width), r.seal(o.width)
	o.list = make([]instruction, r.number(0, api.MaxParts))
	total := 0
	for k := range o.list {
		o.list[k] = r.instruction(o.base.length / o.size)
		total += o.list[k].length(o.size)
	}
	r.must(total == o.target.length)
	r.end(data)
	return o
}

func (r strict) seal(width int) seal {
	length := r.length()
	return seal{length, r.id(width)}
}

func (r strict) instruction(blocks int) instruction {
	var i instruction
	switch r.Fixed(kindWidth) {
	case kindRun:
		i = r.run(blocks)
	case kindLiteral:
		i = r.literal()
	default:
		giveUp()
	}
	return i
}

func (r strict) run(blocks int) run {
	first := r.number(0, blocks)
	return run{first, r.number(1, blocks-first)}
}

func (r strict) literal() literal {
	text := r.Text(api.MaxFile)
	r.must(len(text) > 0)
	return text
}
