package roll

import (
	"iter"
	"slices"
)

// Windows goes through all windows of that size: where each begins, and its sum.
func Windows(data []byte, size int) iter.Seq2[int, int] {
	if size < 1 || size > len(data) {
		return func(yield func(int, int) bool) {}
	}
	kept := slices.Clone(data) // data may be written over while the loop still goes
	return func(yield func(int, int) bool) {
		p := partsOf(kept[:size])
		for at := 0; yield(at, p.sum()); at++ {
			if at+size == len(kept) {
				return
			}
			p = p.moved(kept[at], kept[at+size], size)
		}
	}
}
