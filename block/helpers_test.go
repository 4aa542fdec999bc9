package block_test

import (
	"bytes"
	"fmt"
	"math"
	"math/rand/v2"
	"slices"
	"testing"

	"freight/api"
	"freight/block"
)

// noise is the same row of numbers in every run.
func noise() *rand.Rand { return rand.New(rand.NewPCG(11, 4096)) }

// letters are n bytes of so many kinds.
func letters(r *rand.Rand, n, kinds int) []byte {
	data := make([]byte, n)
	for i := range data {
		data[i] = byte(r.IntN(kinds))
	}
	return data
}

func times(n int, b byte) []byte { return bytes.Repeat([]byte{b}, n) }

// unlike are at most 256 bytes, each of them once: they pack to more.
func unlike(n int) []byte {
	data := make([]byte, n)
	for i := range data {
		data[i] = byte(i + 1)
	}
	return data
}

// patches are n bytes that pack well here, and do not there.
func patches(r *rand.Rand, n int) []byte {
	var data []byte
	for len(data) < n {
		data = append(data, letters(r, r.IntN(40), 256)...)
		data = append(data, times(r.IntN(60), byte(r.IntN(5)))...)
	}
	return data[:n]
}

// rows are n bytes of each kind.
func rows(r *rand.Rand, n int) [][]byte {
	return [][]byte{times(n, 'q'), letters(r, n, 2), letters(r, n, 12), letters(r, n, 256), patches(r, n)}
}

// sizes are those at the edges, and some between them.
func sizes() []int { return []int{16, 17, 31, 32, 100, 1000, 1024, 2048, 4095, 4096} }

// noSizes are not from 16 to 4096.
func noSizes() []int {
	return []int{math.MinInt, math.MinInt + 1, -4096, -17, -16, -1, 0, 1, 8, 15, 4097, 4098, 65536, api.MaxNumber, math.MaxInt - 1, math.MaxInt}
}

// lengths are those of rows at the edges of a size.
func lengths(size int) []int {
	return []int{0, 1, 2, size - 1, size, size + 1, 2*size - 1, 2 * size, 2*size + 1, 5*size + 7}
}

func mustPack(t *testing.T, row []byte, size int) ([]byte, []api.Block) {
	t.Helper()
	packed, blocks, errno := block.Pack(row, size)
	if errno != api.OK {
		t.Fatalf("Pack of %d bytes, %d: %d", len(row), size, errno)
	}
	return packed, blocks
}

// wantPack asks for what P11.1 says, whatever it is.
func wantPack(t *testing.T, what string, row []byte, size int) {
	t.Helper()
	packed, blocks, errno := block.Pack(row, size)
	wantPacked, wantBlocks, wanted := packByWords(row, size)
	if errno != wanted {
		t.Errorf("%s: Pack of %d bytes, %d: error %d, want %d", what, len(row), size, errno, wanted)
		return
	}
	if !bytes.Equal(packed, wantPacked) {
		t.Errorf("%s: Pack of %d bytes, %d: other packed bytes, %d of them, want %d", what, len(row), size, len(packed), len(wantPacked))
	}
	if !slices.Equal(blocks, wantBlocks) {
		t.Errorf("%s: Pack of %d bytes, %d: blocks %v, want %v", what, len(row), size, blocks, wantBlocks)
	}
}

// wantNoPack asks for the error, and by W3 for nothing beside it.
func wantNoPack(t *testing.T, row []byte, size int, want api.Errno) {
	t.Helper()
	packed, blocks, errno := block.Pack(row, size)
	if errno != want || len(packed) != 0 || len(blocks) != 0 {
		t.Errorf("Pack of %d bytes, %d: %d packed bytes, %d blocks, error %d, want %d", len(row), size, len(packed), len(blocks), errno, want)
	}
}

// blockOf is a block of these packed bytes, with their sum.
func blockOf(packed []byte, raw int) api.Block {
	return api.Block{Packed: len(packed), Raw: raw, Sum: sumByWords(packed)}
}

func wantOpen(t *testing.T, what string, packed []byte, b api.Block, want []byte) {
	t.Helper()
	got, errno := block.Open(packed, b)
	if errno != api.OK || !bytes.Equal(got, want) {
		t.Errorf("%s: Open(% x, %v) is % x, %d, want % x", what, packed, b, got, errno, want)
	}
}

// wantNoOpen asks for ErrBlock, and by W3 for nothing beside it.
func wantNoOpen(t *testing.T, what string, packed []byte, b api.Block) {
	t.Helper()
	got, errno := block.Open(packed, b)
	if errno != api.ErrBlock || len(got) != 0 {
		t.Errorf("%s: Open(% x, %v) is % x, %d, want error %d", what, packed, b, got, errno, api.ErrBlock)
	}
}

// wantOpenByWords asks for what P11.2 says, whatever it is, and tells whether it was opened.
func wantOpenByWords(t *testing.T, what string, packed []byte, b api.Block) bool {
	t.Helper()
	want, wanted := openByWords(packed, b)
	if wanted != api.OK {
		wantNoOpen(t, what, packed, b)
		return false
	}
	wantOpen(t, what, packed, b, want)
	return true
}

func wantValid(t *testing.T, what string, blocks []api.Block, row, size int, want bool) {
	t.Helper()
	if got := block.Valid(blocks, row, size); got != want {
		t.Errorf("%s: Valid(%v, %d, %d) is %v", what, shown(blocks), row, size, got)
	}
}

// shown is a list of blocks that is not too long to be told.
func shown(blocks []api.Block) string {
	if len(blocks) > 8 {
		return fmt.Sprint(len(blocks), " blocks, from ", blocks[:3], " to ", blocks[len(blocks)-3:])
	}
	return fmt.Sprint(blocks)
}

func wantCover(t *testing.T, size, at, n, first, behind int) {
	t.Helper()
	if a, b := block.Cover(size, at, n); a != first || b != behind {
		t.Errorf("Cover(%d, %d, %d) is %d, %d, want %d, %d", size, at, n, a, b, first, behind)
	}
}

// pieceOf are the packed bytes of a block.
func pieceOf(packed []byte, b api.Block) []byte { return packed[b.At : b.At+b.Packed] }

// roomy is a copy of data with spare room that is full of one byte.
func roomy(data []byte, spare int, fill byte) []byte {
	whole := append(bytes.Clone(data), times(spare, fill)...)
	return whole[:len(data)]
}
