package delta

import (
	"freight/api"
	"freight/digest"
	"freight/roll"
)

// finder tells which windows of a target fit the blocks of a signature.
type finder struct {
	width, size int
	blocks      []api.Weak
	bySum       map[int][]int // which blocks have a sum, rising
}

func finderOf(s api.Signature) finder {
	f := finder{s.Width, s.Size, s.Blocks, map[int][]int{}}
	for k, b := range s.Blocks {
		f.bySum[b.Sum] = append(f.bySum[b.Sum], k)
	}
	return f
}

// instructions are those of a signature and a target; of too many the first
// ones, no fewer than are too many.
func instructions(s api.Signature, target []byte) []instruction {
	f := finderOf(s)
	var list []instruction
	for rest := target; len(rest) > 0 && len(list) <= api.MaxParts; {
		at, first := f.next(rest)
		if at > 0 {
			list = append(list, literal(rest[:at]))
		}
		rest = rest[at:]
		if len(rest) == 0 {
			break
		}
		found := run{first, f.count(rest, first)}
		list = append(list, found)
		rest = rest[found.length(f.size):]
	}
	return list
}

// next is where the first window of rest that fits begins, and the least block
// that it fits; the end of rest, if none does.
func (f finder) next(rest []byte) (int, int) {
	for at, sum := range roll.Windows(rest, f.size) {
		if k, fits := f.least(rest[at:at+f.size], sum); fits {
			return at, k
		}
	}
	return len(rest), 0
}

// least is the least block that a window of that sum fits.
func (f finder) least(window []byte, sum int) (int, bool) {
	alike := f.bySum[sum]
	if len(alike) == 0 {
		return 0, false // most windows end here, without their id being made
	}
	id := digest.Of(f.width, window)
	for _, k := range alike {
		if f.blocks[k].ID == id {
			return k, true
		}
	}
	return 0, false
}

// count is how many windows side by side, from the beginning of rest on, fit
// the blocks from that one on.
func (f finder) count(rest []byte, first int) int {
	n := 0
	for _, b := range f.blocks[first:] {
		if len(rest) < f.size || weakOf(f.width, rest[:f.size]) != b {
			break
		}
		rest = rest[f.size:]
		n++
	}
	return n
}
