package block_test

import (
	"bytes"
	"slices"
	"testing"

	"freight/api"
	"freight/block"
)

// wantBack opens each block, lays them one behind the other, and holds them against the row.
func wantBack(t *testing.T, what string, row []byte, size int) {
	t.Helper()
	packed, blocks := mustPack(t, row, size)
	if len(packed) > len(row) {
		t.Errorf("%s: %d packed bytes of %d, %d", what, len(packed), len(row), size)
	}
	if !block.Valid(blocks, len(row), size) {
		t.Errorf("%s: Valid is false of the blocks of %d bytes, %d", what, len(row), size)
	}
	var all []byte
	end := 0
	for k, b := range blocks {
		piece := row[k*size : min(len(row), (k+1)*size)]
		got, errno := block.Open(pieceOf(packed, b), b)
		if errno != api.OK || !bytes.Equal(got, piece) {
			t.Errorf("%s: block %d of %d bytes, %d: error %d, or other bytes", what, k, len(row), size, errno)
		}
		all = append(all, got...)
		end = b.At + b.Packed
	}
	if !bytes.Equal(all, row) || end != len(packed) {
		t.Errorf("%s: %d bytes, %d: other bytes came back, or packed bytes are left", what, len(row), size)
	}
}

func TestP11_6_Back(t *testing.T) {
	r := noise()
	for _, size := range sizes() {
		for _, n := range lengths(size) {
			for _, row := range rows(r, n) {
				wantBack(t, "an edge", row, size)
			}
		}
		wantBack(t, "nil", nil, size)
	}
	for _, size := range []int{16, 1000, 4096} {
		for _, row := range rows(r, api.MaxRow) {
			wantBack(t, "the longest", row, size)
		}
	}
}

func TestP11_6_BackOfDrawnRows(t *testing.T) {
	r := noise()
	for range 300 {
		size := 16 + r.IntN(1<<(1+r.IntN(12)))
		size = min(size, 4096)
		wantBack(t, "patches", patches(r, r.IntN(3000)), size)
		wantBack(t, "letters", letters(r, r.IntN(3000), 1+r.IntN(256)), size)
	}
}

// All rows of few letters in blocks of 16: those that pack to one byte less, to as many, and to one more.
func TestP11_6_NearTheLineBetweenStoredAndPacked(t *testing.T) {
	var packedTo [17]int
	r := noise()
	for range 20000 {
		row := letters(r, 16, 3+r.IntN(20))
		wantBack(t, "a block", row, 16)
		_, blocks := mustPack(t, row, 16)
		packedTo[blocks[0].Packed]++
	}
	if packedTo[16] < 1000 || packedTo[15] < 100 || packedTo[14] < 100 {
		t.Errorf("so many packed to so many bytes: %v", packedTo)
	}
}

// turnedRows have stored blocks, packed ones, and both.
func turnedRows() [][]byte {
	r := noise()
	return [][]byte{unlike(40), times(40, 'q'), patches(r, 120), []byte("abcdefghijkabcdeabcdefghijklabcd")}
}

func TestP11_7_EachByteTurned(t *testing.T) {
	for _, row := range turnedRows() {
		for _, size := range []int{16, 33, 4096} {
			packed, blocks := mustPack(t, row, size)
			for _, b := range blocks {
				piece := bytes.Clone(pieceOf(packed, b))
				for i := range piece {
					for by := 1; by < 256; by++ {
						piece[i] ^= byte(by)
						wantNoOpen(t, "a byte turned", piece, b)
						piece[i] ^= byte(by)
					}
				}
			}
		}
	}
}

// With the sum of the turned bytes they are opened to other bytes, or refused for what they are.
func TestP11_7_EachByteTurnedWithItsSum(t *testing.T) {
	opened, refused := 0, 0
	for _, row := range turnedRows() {
		for _, size := range []int{16, 33, 4096} {
			packed, blocks := mustPack(t, row, size)
			for k, b := range blocks {
				piece := bytes.Clone(pieceOf(packed, b))
				was := row[k*size : min(len(row), (k+1)*size)]
				for i := range piece {
					for by := 1; by < 256; by += 2 {
						piece[i] ^= byte(by)
						turned := b
						turned.Sum = sumByWords(piece)
						if wantOpenByWords(t, "a byte turned", piece, turned) {
							opened++
						} else {
							refused++
						}
						if got, _ := block.Open(piece, turned); b.Packed == b.Raw && bytes.Equal(got, was) {
							t.Errorf("stored bytes turned at %d: the same came back", i)
						}
						piece[i] ^= byte(by)
					}
				}
			}
		}
	}
	if opened < 1000 || refused < 100 {
		t.Errorf("%d opened, %d refused", opened, refused)
	}
}

// Several bytes turned: never other bytes while Sum is another than theirs.
func TestP11_7_ManyBytesTurned(t *testing.T) {
	r := noise()
	for range 5000 {
		row := patches(r, 1+r.IntN(100))
		packed, blocks := mustPack(t, row, 32)
		b := blocks[r.IntN(len(blocks))]
		piece := bytes.Clone(pieceOf(packed, b))
		for range 1 + r.IntN(6) {
			piece[r.IntN(len(piece))] ^= byte(1 + r.IntN(255))
		}
		if bytes.Equal(piece, pieceOf(packed, b)) || sumByWords(piece) == b.Sum {
			continue
		}
		wantNoOpen(t, "bytes turned", piece, b)
	}
}

// The bytes of one block are not taken for those of another.
func TestP11_7_AnotherBlocksBytes(t *testing.T) {
	packed, blocks := mustPack(t, slices.Concat(unlike(32), times(16, 'q'), times(16, 'r')), 16)
	for i, a := range blocks {
		for j, b := range blocks {
			if i != j {
				wantNoOpen(t, "another block's bytes", pieceOf(packed, a), b)
			}
		}
	}
}

func FuzzRows(f *testing.F) {
	f.Add([]byte(nil), 16)
	f.Add([]byte("abcdefghijklabcdabcdefghijkabcde"), 16)
	f.Add(patches(noise(), 500), 50)
	f.Add(times(5000, 'q'), 4096)
	f.Add([]byte("abc"), -1)
	f.Fuzz(func(t *testing.T, row []byte, size int) {
		wantPack(t, "any row", row, size)
		if size >= 16 && size <= 4096 && len(row) <= 65536 {
			wantBack(t, "any row", row, size)
		}
	})
}

func FuzzBlocks(f *testing.F) {
	f.Add(seven(), 0, 4, 7, sumByWords(seven()), true)
	f.Add([]byte("ab"), 5, 2, 2, 0, false)
	f.Add([]byte{}, -1, -1, -1, -1, false)
	f.Fuzz(func(t *testing.T, packed []byte, at, n, raw, sum int, right bool) {
		b := api.Block{At: at, Packed: n, Raw: raw, Sum: sum}
		if right {
			b.Packed, b.Sum = len(packed), sumByWords(packed)
		}
		wantOpenByWords(t, "any bytes", packed, b)
		for _, l := range [][]api.Block{{b}, {b, b}, {{At: at - n, Packed: n, Raw: raw}, b}} {
			for _, row := range []int{raw, raw * 2, n, at} {
				for _, size := range []int{raw, n, 16, 4096} {
					wantValid(t, "any blocks", l, row, size, validByWords(l, row, size))
				}
			}
		}
		first, behind := coverByWords(n, at, raw)
		wantCover(t, n, at, raw, first, behind)
	})
}
