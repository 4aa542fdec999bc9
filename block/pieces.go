package block

import (
	"freight/api"
	"freight/press"
)

// maxSum is the greatest sum of 32 bits.
const maxSum = 4294967295

func within(v, least, most int) bool { return v >= least && v <= most }

func isSize(size int) bool { return within(size, api.MinBlock, api.MaxBlock) }

// count is how many blocks a row takes.
func count(row, size int) int { return (row + size - 1) / size }

// ends are where the piece of the block k begins in the row, and the place behind it.
func ends(k, row, size int) (int, int) { return k * size, min((k+1)*size, row) }

// shorter is a piece as press packs it, or the piece itself: Open knows a stored one by its length alone, so
// what packs to just as many bytes is stored.
func shorter(piece []byte) []byte {
	pressed, errno := press.Pack(piece)
	if errno != api.OK || len(pressed) >= len(piece) {
		return piece
	}
	return pressed
}
