package roll

// parts are the two halves of a sum. They have 16 bits, so that their
// wrap-round is the remainder by 65536 that the sum asks for.
type parts struct {
	a, b uint16
}

// Sum is the sum of a window.
func Sum(window []byte) int { return partsOf(window).sum() }

func partsOf(window []byte) parts {
	var p parts
	for _, x := range window {
		p.a += uint16(x)
		p.b += p.a // so the first byte is counted n times in the end, the last one once
	}
	return p
}

// moved are the parts of a window of n bytes behind one step: out was its first byte, in is its last one.
func (p parts) moved(out, in byte, n int) parts {
	a := p.a - uint16(out) + uint16(in)
	// Each byte that stays counts once more than before, and in counts once: together that is a.
	b := p.b - uint16(n)*uint16(out) + a
	return parts{a, b}
}

func (p parts) sum() int { return int(p.b)<<16 | int(p.a) }
