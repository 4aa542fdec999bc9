package block_test

import (
	"bytes"
	"slices"
	"testing"

	"freight/api"
	"freight/block"
	"freight/code"
	"freight/press"
)

func TestP11_1_NoSize(t *testing.T) {
	for _, size := range noSizes() {
		for _, n := range []int{0, 1, 15, 16, 17, api.MaxRow, api.MaxRow + 1} {
			wantNoPack(t, times(n, 'q'), size, api.ErrArg)
		}
		wantNoPack(t, nil, size, api.ErrArg)
	}
}

func TestP11_1_TooLong(t *testing.T) {
	r := noise()
	for _, size := range sizes() {
		for _, n := range []int{api.MaxRow + 1, api.MaxRow + 2, 2 * api.MaxRow, 1 << 20} {
			wantNoPack(t, times(n, 'q'), size, api.ErrLong)
			wantNoPack(t, letters(r, n, 256), size, api.ErrLong)
		}
	}
}

func TestP11_1_NoBytesNoBlock(t *testing.T) {
	for _, size := range sizes() {
		for _, row := range [][]byte{nil, {}, roomy(nil, 100, 'q')} {
			packed, blocks, errno := block.Pack(row, size)
			if errno != api.OK || len(packed) != 0 || len(blocks) != 0 {
				t.Errorf("no bytes, %d: %x, %v, %d", size, packed, blocks, errno)
			}
		}
	}
}

func TestP11_1_Edges(t *testing.T) {
	r := noise()
	for _, size := range sizes() {
		for _, n := range lengths(size) {
			for _, row := range rows(r, n) {
				wantPack(t, "an edge", row, size)
			}
		}
	}
}

func TestP11_1_EverySize(t *testing.T) {
	row := patches(noise(), 5000)
	for size := 10; size <= 4100; size += 1 + size/50 {
		wantPack(t, "a size", row[:min(len(row), 3*size+1)], size)
	}
}

func TestP11_1_EveryLength(t *testing.T) {
	row := patches(noise(), 300)
	for n := range len(row) + 1 {
		wantPack(t, "a length", row[:n], 16)
		wantPack(t, "a length", row[:n], 50)
	}
}

func TestP11_1_TheLongestRow(t *testing.T) {
	r := noise()
	for _, size := range []int{16, 17, 1000, 4095, 4096} {
		for _, n := range []int{api.MaxRow - 1, api.MaxRow} {
			for _, row := range rows(r, n) {
				wantPack(t, "the longest", row, size)
			}
		}
	}
}

// A block that packs to just as many bytes is stored: 12 literals and a match of 4 are 16 bytes with their flags.
func TestP11_1_FewerAsManyMore(t *testing.T) {
	for _, x := range []struct {
		piece        string
		press, taken int
	}{
		{"abcdefghijkabcde", 15, 15},
		{"abcdefghijklabcd", 16, 16},
		{"abcdefghijklmabc", 17, 16},
		{"abcdefghijklmnop", 18, 16},
		{"aaaaaaaaaaaaaaaa", 4, 4},
	} {
		pressed, _ := press.Pack([]byte(x.piece))
		if len(pressed) != x.press {
			t.Fatalf("%s packs to %d bytes, want %d", x.piece, len(pressed), x.press)
		}
		want := pressed
		if x.taken == len(x.piece) {
			want = []byte(x.piece)
		}
		packed, blocks := mustPack(t, []byte(x.piece), 16)
		if !bytes.Equal(packed, want) || !slices.Equal(blocks, []api.Block{{At: 0, Packed: x.taken, Raw: 16, Sum: code.Sum(want)}}) {
			t.Errorf("%s: %x, %v", x.piece, packed, blocks)
		}
		wantOpen(t, x.piece, packed, blocks[0], []byte(x.piece))
	}
}

func TestP11_1_StoredAndPackedByTurns(t *testing.T) {
	row := slices.Concat([]byte("abcdefghijklmnop"), times(16, 'q'), []byte("abcdefghijklabcd"), []byte("abcdefghijkabcde"), []byte("ponmlkjihgfedcba"), times(16, 'z'), []byte("zz"))
	packed, blocks := mustPack(t, row, 16)
	want := []api.Block{{At: 0, Packed: 16}, {At: 16, Packed: 4}, {At: 20, Packed: 16}, {At: 36, Packed: 15}, {At: 51, Packed: 16}, {At: 67, Packed: 4}, {At: 71, Packed: 2}}
	if len(blocks) != len(want) || len(packed) != 73 {
		t.Fatalf("%d packed bytes, blocks %v", len(packed), blocks)
	}
	for k, w := range want {
		b := blocks[k]
		if b.At != w.At || b.Packed != w.Packed || b.Raw != min(16, len(row)-16*k) || b.Sum != code.Sum(pieceOf(packed, b)) {
			t.Errorf("block %d is %v, want %v", k, b, w)
		}
	}
	for _, k := range []int{0, 2, 4, 6} {
		if !bytes.Equal(pieceOf(packed, blocks[k]), row[16*k:min(len(row), 16*k+16)]) {
			t.Errorf("block %d is not stored as it is", k)
		}
	}
	wantPack(t, "by turns", row, 16)
}

// Each block is packed by itself: what stands in the block ahead is no match.
func TestP11_1_EachByItself(t *testing.T) {
	piece := unlike(64)
	packed, blocks := mustPack(t, slices.Concat(piece, piece, piece), 64)
	if !bytes.Equal(packed, slices.Concat(piece, piece, piece)) || len(blocks) != 3 {
		t.Errorf("%x, %v", packed, blocks)
	}
	_, whole := mustPack(t, slices.Concat(piece, piece, piece), 192)
	if len(whole) != 1 || whole[0].Packed >= 192 {
		t.Errorf("one block: %v", whole)
	}
}

func TestP11_1_DrawnRows(t *testing.T) {
	r := noise()
	for range 400 {
		size := 16 + r.IntN(1<<(1+r.IntN(12)))
		wantPack(t, "drawn", patches(r, r.IntN(3000)), size)
		wantPack(t, "drawn", letters(r, r.IntN(3000), 1+r.IntN(256)), size)
	}
}
