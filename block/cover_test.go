package block_test

import (
	"math"
	"testing"

	"freight/api"
	"freight/block"
)

func TestP11_4_NoSize(t *testing.T) {
	for _, size := range noSizes() {
		for _, at := range []int{0, 5, 100} {
			wantCover(t, size, at, 5, 0, 0)
			wantCover(t, size, at, 100, 0, 0)
		}
	}
}

func TestP11_4_NoPlace(t *testing.T) {
	for _, size := range sizes() {
		for _, at := range []int{math.MinInt, math.MinInt + 1, -4096, -17, -16, -1, api.MaxNumber + 1, api.MaxNumber + 2, 1 << 32, math.MaxInt - 1, math.MaxInt} {
			for _, n := range []int{1, 16, 5000, api.MaxNumber} {
				wantCover(t, size, at, n, 0, 0)
			}
		}
	}
}

func TestP11_4_NoBytes(t *testing.T) {
	for _, size := range sizes() {
		for _, n := range []int{math.MinInt, math.MinInt + 1, -4096, -16, -1, 0, api.MaxNumber + 1, api.MaxNumber + 2, 1 << 32, math.MaxInt - 1, math.MaxInt} {
			for _, at := range []int{0, 1, 15, 16, 17, 5000, api.MaxNumber} {
				wantCover(t, size, at, n, 0, 0)
			}
		}
	}
}

// The first and the last byte of a block, alone and with its neighbours.
func TestP11_4_EndsOfABlock(t *testing.T) {
	for _, size := range sizes() {
		for _, k := range []int{0, 1, 2, 7, 1000} {
			first, last := k*size, (k+1)*size-1
			wantCover(t, size, first, 1, k, k+1)
			wantCover(t, size, last, 1, k, k+1)
			wantCover(t, size, last, 2, k, k+2)
			wantCover(t, size, first, size-1, k, k+1)
			wantCover(t, size, first, size, k, k+1)
			wantCover(t, size, first, size+1, k, k+2)
			wantCover(t, size, first+1, size-1, k, k+1)
			wantCover(t, size, first+1, size, k, k+2)
			wantCover(t, size, last, size, k, k+2)
			wantCover(t, size, last, size+1, k, k+2)
			wantCover(t, size, last, size+2, k, k+3)
			wantCover(t, size, first, 3*size, k, k+3)
			wantCover(t, size, first, 3*size+1, k, k+4)
		}
	}
}

func TestP11_4_TheGreatestNumbers(t *testing.T) {
	const most = api.MaxNumber
	wantCover(t, 16, most, 1, most/16, most/16+1)
	wantCover(t, 16, 0, most, 0, most/16+1)
	wantCover(t, 16, most, most, 134217727, 268435456)
	wantCover(t, 4096, most, most, 524287, 1048576)
	wantCover(t, 4096, most, 1, 524287, 524288)
	wantCover(t, 4096, most, 2, 524287, 524289)
	wantCover(t, 4096, 1, most, 0, 524288)
	wantCover(t, 4096, 2, most, 0, 524289)
	for _, size := range sizes() {
		for _, at := range []int{0, 1, most - 1, most} {
			for _, n := range []int{1, 2, most - 1, most} {
				first, behind := coverByWords(size, at, n)
				wantCover(t, size, at, n, first, behind)
			}
		}
	}
}

func TestP11_4_Drawn(t *testing.T) {
	r := noise()
	for range 50000 {
		size, at, n := r.IntN(4200), r.IntN(1<<r.IntN(33))-3, r.IntN(1<<r.IntN(33))-3
		first, behind := coverByWords(size, at, n)
		wantCover(t, size, at, n, first, behind)
	}
}

// has tells whether the block k has one of the n bytes from at on, byte by byte.
func has(size, k, at, n int) bool {
	for place := at; place < at+n; place++ {
		if place >= k*size && place <= (k+1)*size-1 {
			return true
		}
	}
	return false
}

func TestP11_8_JustThoseThatHaveOne(t *testing.T) {
	for _, size := range []int{16, 17, 20} {
		for at := range 70 {
			for n := 1; n < 70; n++ {
				first, behind := block.Cover(size, at, n)
				for k := range 12 {
					if within := k >= first && k < behind; within != has(size, k, at, n) {
						t.Fatalf("Cover(%d, %d, %d) is %d, %d: block %d", size, at, n, first, behind, k)
					}
				}
			}
		}
	}
}

// The bytes of a place of the row, out of the blocks that Cover tells and out of no other.
func TestP11_8_TheBytesComeOutOfThem(t *testing.T) {
	r := noise()
	for range 300 {
		row := patches(r, 1+r.IntN(2000))
		size := 16 + r.IntN(200)
		packed, blocks := mustPack(t, row, size)
		at := r.IntN(len(row))
		n := 1 + r.IntN(len(row)-at)
		first, behind := block.Cover(size, at, n)
		if first < 0 || behind > len(blocks) {
			t.Fatalf("%d bytes, %d: Cover of %d, %d is %d, %d", len(row), size, at, n, first, behind)
		}
		var got []byte
		for _, b := range blocks[first:behind] {
			raw, _ := block.Open(pieceOf(packed, b), b)
			got = append(got, raw...)
		}
		if from := at - first*size; len(got) < from+n || string(got[from:from+n]) != string(row[at:at+n]) {
			t.Fatalf("%d bytes, %d: not the bytes of %d, %d", len(row), size, at, n)
		}
	}
}
