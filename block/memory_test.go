package block_test

import (
	"bytes"
	"slices"
	"sync"
	"testing"

	"freight/api"
	"freight/block"
)

// kinds are rows that are stored, packed, both by turns.
func kinds() [][]byte {
	r := noise()
	return [][]byte{nil, {}, []byte("a"), unlike(16), unlike(100), times(16, 'q'), times(100, 'q'), patches(r, 700), letters(r, 700, 256), letters(r, 700, 2)}
}

func wantUntouched(t *testing.T, what string, list, before []byte) {
	t.Helper()
	if !bytes.Equal(list[:cap(list)], before) {
		t.Errorf("%s: what was handed in is another", what)
	}
}

// fill writes over a list, and over its room.
func fill(list []byte, b byte) {
	whole := list[:cap(list)]
	for i := range whole {
		whole[i] = b
	}
}

// fillBlocks writes over a list of blocks, and over its room.
func fillBlocks(list []api.Block) {
	whole := list[:cap(list)]
	for i := range whole {
		whole[i] = api.Block{At: -7, Packed: -7, Raw: -7, Sum: -7}
	}
}

func TestP11_5_PackTouchesNothing(t *testing.T) {
	for _, row := range append(kinds(), times(api.MaxRow+1, 7)) {
		for _, size := range []int{15, 16, 100, 4096} {
			given := roomy(row, 5000, 0xa5)
			before := bytes.Clone(given[:cap(given)])
			packed, blocks, _ := block.Pack(given, size)
			wantUntouched(t, "Pack", given, before)
			fill(packed, 0x5a)
			fillBlocks(blocks)
			wantUntouched(t, "Pack, its answer written over", given, before)
		}
	}
}

func TestP11_5_PackKeepsNothing(t *testing.T) {
	for _, row := range kinds() {
		for _, size := range []int{16, 100, 4096} {
			given := roomy(row, 300, 1)
			packed, blocks := mustPack(t, given, size)
			fill(given, 0x77)
			want, wantBlocks, _ := packByWords(row, size)
			if !bytes.Equal(packed, want) || !slices.Equal(blocks, wantBlocks) {
				t.Errorf("Pack of %d bytes, %d: the row written over behind it", len(row), size)
			}
		}
	}
}

func TestP11_5_OpenTouchesAndKeepsNothing(t *testing.T) {
	for _, row := range kinds() {
		for _, size := range []int{16, 100, 4096} {
			packed, blocks := mustPack(t, row, size)
			for k, b := range blocks {
				given := roomy(pieceOf(packed, b), 200, 0xa5)
				before := bytes.Clone(given[:cap(given)])
				got, errno := block.Open(given, b)
				wantUntouched(t, "Open", given, before)
				fill(given, 0x77)
				if errno != api.OK || !bytes.Equal(got, row[k*size:min(len(row), (k+1)*size)]) {
					t.Errorf("Open of block %d of %d bytes, %d: written over behind it", k, len(row), size)
				}
			}
		}
	}
}

// Also where the bytes are those that were handed in, and where they are not taken.
func TestP11_5_OpenAnswersNewMemory(t *testing.T) {
	for _, packed := range [][]byte{[]byte("a"), []byte("ab"), seven(), unlike(100)} {
		for _, raw := range []int{len(packed) - 1, len(packed), len(packed) + 1, 7} {
			given := roomy(packed, 200, 0xa5)
			before := bytes.Clone(given[:cap(given)])
			got, _ := block.Open(given, blockOf(packed, raw))
			other, errno := block.Open(given, blockOf(packed, raw))
			want := bytes.Clone(other)
			fill(got, 0x5a)
			wantUntouched(t, "Open, its answer written over", given, before)
			if errno == api.OK && !bytes.Equal(other, want) {
				t.Errorf("% x for %d: the second answer hangs on the first", packed, raw)
			}
			grown := append(got, "more"...)
			wantUntouched(t, "Open, its answer grown", given, before)
			if !bytes.HasSuffix(grown, []byte("more")) {
				t.Errorf("% x for %d: what was appended is another", packed, raw)
			}
		}
	}
}

// Two calls, the room behind what they answer too, have nothing in common.
func TestP11_5_AnswersAreApart(t *testing.T) {
	for _, row := range kinds() {
		for _, size := range []int{16, 100, 4096} {
			one, oneBlocks := mustPack(t, row, size)
			two, twoBlocks := mustPack(t, row, size)
			fill(one, 0x5a)
			fillBlocks(oneBlocks)
			grown := append(one, "more"...)
			grownBlocks := append(oneBlocks, api.Block{At: 9})
			want, wantBlocks, _ := packByWords(row, size)
			if !bytes.Equal(two, want) || !slices.Equal(twoBlocks, wantBlocks) {
				t.Errorf("Pack of %d bytes, %d: the second answer hangs on the first", len(row), size)
			}
			if !bytes.HasSuffix(grown, []byte("more")) || grownBlocks[len(grownBlocks)-1].At != 9 {
				t.Errorf("Pack of %d bytes, %d: what was appended is another", len(row), size)
			}
		}
	}
}

func TestP11_5_NoBytesAreNewToo(t *testing.T) {
	given := roomy(nil, 50, 0xa5)
	before := bytes.Clone(given[:cap(given)])
	one, oneBlocks := mustPack(t, given, 16)
	two, twoBlocks := mustPack(t, given, 16)
	grown := [][]byte{append(one, "one"...), append(two, "two"...)}
	blocks := [][]api.Block{append(oneBlocks, api.Block{At: 1}), append(twoBlocks, api.Block{At: 2})}
	wantUntouched(t, "appended to", given, before)
	if string(grown[0]) != "one" || string(grown[1]) != "two" || blocks[0][0].At != 1 || blocks[1][0].At != 2 {
		t.Errorf("answers without anything share their room: %q, %v", grown, blocks)
	}
}

func TestP11_5_ValidTouchesNothing(t *testing.T) {
	for _, at := range []int{-1, 0, 70, api.MaxNumber} {
		for _, row := range []int{-1, 0, 99, 100, 101, api.MaxRow + 1} {
			whole := append(stored(at, 100, 16), stored(3, 50, 20)...)
			before := slices.Clone(whole)
			block.Valid(whole[:7], row, 16)
			if !slices.Equal(whole, before) {
				t.Errorf("Valid(.., %d, 16): what was handed in is another", row)
			}
		}
	}
}

// W2: nothing is kept from call to call.
func TestW2_TheSameEachTime(t *testing.T) {
	for _, row := range kinds() {
		for _, between := range kinds() {
			wantPack(t, "once more", row, 16)
			block.Pack(between, 17)
			block.Open(between, blockOf(between, len(between)))
			block.Valid(stored(0, 90, 30), len(between), 30)
			block.Cover(20, len(between), 5)
			wantPack(t, "once more", row, 16)
		}
	}
}

func TestW2_ByManyAtOnce(t *testing.T) {
	row := patches(noise(), 5000)
	want, wantBlocks, _ := packByWords(row, 64)
	got, back := make([][]byte, 8), make([][]byte, 8)
	blocks := make([][]api.Block, 8)
	var all sync.WaitGroup
	for i := range got {
		all.Go(func() {
			got[i], blocks[i], _ = block.Pack(row, 64)
			for _, b := range blocks[i] {
				raw, _ := block.Open(pieceOf(want, b), b)
				back[i] = append(back[i], raw...)
			}
		})
	}
	all.Wait()
	for i := range got {
		if !bytes.Equal(got[i], want) || !slices.Equal(blocks[i], wantBlocks) || !bytes.Equal(back[i], row) {
			t.Errorf("one of many: another answer")
		}
	}
}

// W5: a nil list and an empty one are the same.
func TestW5_NilAndEmpty(t *testing.T) {
	for _, size := range []int{15, 16, 4096, 4097} {
		a, l, e := block.Pack(nil, size)
		b, m, f := block.Pack([]byte{}, size)
		if len(a) != len(b) || len(l) != len(m) || e != f {
			t.Errorf("Pack of nothing, %d: %d and %d", size, e, f)
		}
	}
	for _, b := range []api.Block{{}, {Raw: 1}, {Packed: 1, Raw: 1}, {Packed: -1, Raw: -1}} {
		wantNoOpen(t, "nil", nil, b)
		wantNoOpen(t, "empty", []byte{}, b)
	}
}
