package block_test

import (
	"fmt"
	"math"
	"slices"
	"testing"

	"freight/api"
	"freight/block"
)

// stored are the blocks of a row, from a place on, as if none could be packed.
func stored(at, row, size int) []api.Block {
	var blocks []api.Block
	for left := row; left > 0; left -= size {
		n := min(left, size)
		blocks = append(blocks, api.Block{At: at, Packed: n, Raw: n})
		at += n
	}
	return blocks
}

func TestP11_3_NoBlocks(t *testing.T) {
	for _, none := range [][]api.Block{nil, {}, stored(0, 90, 30)[:0]} {
		for _, size := range sizes() {
			wantValid(t, "none", none, 0, size, true)
			for _, row := range []int{math.MinInt, -1 << 32, -65536, -size, -1, 1, size - 1, size, size + 1, 65535, 65536, 65537, math.MaxInt} {
				wantValid(t, "none", none, row, size, false)
			}
		}
		for _, size := range noSizes() {
			for _, row := range []int{math.MinInt, -1, 0, 1, 16, 65536, math.MaxInt} {
				wantValid(t, "none", none, row, size, false)
			}
		}
	}
	for _, size := range sizes() {
		wantValid(t, "one of no bytes", []api.Block{{}}, 0, size, false)
		wantValid(t, "one of a byte", []api.Block{{Packed: 1, Raw: 1}}, 0, size, false)
		wantValid(t, "one of no bytes", []api.Block{{}}, 1, size, false)
		wantValid(t, "one of a byte", []api.Block{{Packed: 1, Raw: 1}}, 1, size, true)
	}
}

func TestP11_3_AsManyAsItTakes(t *testing.T) {
	for _, size := range []int{16, 17, 100, 4096} {
		for _, row := range lengths(size) {
			l := stored(0, row, size)
			wantValid(t, "just as many", l, row, size, true)
			end := row
			wantValid(t, "one too many", append(slices.Clone(l), api.Block{At: end, Packed: 1, Raw: 1}), row, size, false)
			wantValid(t, "one too many, of no bytes", append(slices.Clone(l), api.Block{At: end}), row, size, false)
			wantValid(t, "one too many, full", append(slices.Clone(l), api.Block{At: end, Packed: size, Raw: size}), row, size, false)
			if len(l) > 0 {
				wantValid(t, "one too few", l[:len(l)-1], row, size, false)
				wantValid(t, "without the first one", l[1:], row, size, false)
			}
			wantValid(t, "a longer row", l, row+1, size, false)
			wantValid(t, "a shorter row", l, row-1, size, false)
			wantValid(t, "a row of as many more", l, row+size, size, false)
			wantValid(t, "a row below 0", l, -row-1, size, false)
		}
	}
}

func TestP11_3_TheLongestRow(t *testing.T) {
	for _, size := range []int{16, 17, 1000, 4095, 4096} {
		for _, row := range []int{api.MaxRow - 1, api.MaxRow} {
			wantValid(t, "the longest", stored(0, row, size), row, size, true)
		}
		for _, row := range []int{api.MaxRow + 1, api.MaxRow + 2, api.MaxRow + size, 2 * api.MaxRow} {
			wantValid(t, "too long", stored(0, row, size), row, size, false)
		}
	}
}

func TestP11_3_Sizes(t *testing.T) {
	for _, size := range []int{1, 2, 8, 15, 4097, 5000} {
		for _, row := range []int{1, size, 2*size + 3, 10000} {
			wantValid(t, "no size", stored(0, row, size), row, size, false)
		}
	}
	for _, size := range noSizes() {
		wantValid(t, "no size", stored(0, 100, 16), 100, size, false)
		wantValid(t, "no size", []api.Block{{Packed: 1, Raw: 1}}, 1, size, false)
	}
	for _, size := range []int{16, 4096} {
		for _, other := range []int{size - 1, size + 1, 2 * size, size / 2} {
			wantValid(t, "another size", stored(0, 10000, size), 10000, other, false)
		}
	}
	wantValid(t, "a row in one block", stored(0, 16, 16), 16, 4096, true)
}

// field is one of the numbers of a block.
type field struct {
	name string
	of   func(*api.Block) *int
}

func fields() []field {
	return []field{
		{"Raw", func(b *api.Block) *int { return &b.Raw }},
		{"Packed", func(b *api.Block) *int { return &b.Packed }},
		{"Sum", func(b *api.Block) *int { return &b.Sum }},
		{"At", func(b *api.Block) *int { return &b.At }},
	}
}

// strange are numbers near the edges of what a number may be.
func strange() []int {
	return []int{math.MinInt, math.MinInt + 1, -1 << 32, -1 << 31, -1, 0, 1, 15, 16, 17, 4095, 4096, 4097, api.MaxNumber - 1, api.MaxNumber, api.MaxNumber + 1, 4294967294, 4294967295, 4294967296, 1 << 40, math.MaxInt - 1, math.MaxInt}
}

// Every number of the first block, of a middle one and of the last one, turned.
func TestP11_3_EachNumber(t *testing.T) {
	_, l := mustPack(t, patches(noise(), 150), 32)
	for i := range l {
		l[i].At += 1000
	}
	for _, k := range []int{0, 1, 2, len(l) - 2, len(l) - 1} {
		for _, f := range fields() {
			old := *f.of(&l[k])
			for _, v := range append(strange(), old-2, old-1, old, old+1, old+2, old-1<<32, old+1<<32) {
				turned := slices.Clone(l)
				*f.of(&turned[k]) = v
				wantValid(t, fmt.Sprint(f.name, " of block ", k), turned, 150, 32, validByWords(turned, 150, 32))
			}
		}
	}
}

// blocksOf are blocks by their At, Packed, Raw, Sum.
func blocksOf(numbers [][4]int) []api.Block {
	var blocks []api.Block
	for _, n := range numbers {
		blocks = append(blocks, api.Block{At: n[0], Packed: n[1], Raw: n[2], Sum: n[3]})
	}
	return blocks
}

// The same by hand, so that it hangs on no second reading: 20, 20 and 7 bytes, packed to 20, 9 and 1.
func TestP11_3_EachNumberByHand(t *testing.T) {
	wantValid(t, "as it is", blocksOf([][4]int{{5, 20, 20, 0}, {25, 9, 20, 4294967295}, {34, 1, 7, 77}}), 47, 20, true)
	for name, turned := range map[string][][4]int{
		"Raw of the first one less":    {{5, 19, 19, 0}, {24, 9, 20, 0}, {33, 1, 7, 77}},
		"Raw of the first one more":    {{5, 20, 21, 0}, {25, 9, 20, 0}, {34, 1, 7, 77}},
		"Raw of the middle one less":   {{5, 20, 20, 0}, {25, 9, 19, 0}, {34, 1, 7, 77}},
		"Raw of the middle one more":   {{5, 20, 20, 0}, {25, 9, 21, 0}, {34, 1, 7, 77}},
		"Raw of the last one less":     {{5, 20, 20, 0}, {25, 9, 20, 0}, {34, 1, 6, 77}},
		"Raw of the last one more":     {{5, 20, 20, 0}, {25, 9, 20, 0}, {34, 1, 8, 77}},
		"a last one that is full":      {{5, 20, 20, 0}, {25, 9, 20, 0}, {34, 1, 20, 77}},
		"the short one first":          {{5, 7, 7, 0}, {12, 20, 20, 0}, {32, 1, 20, 77}},
		"one less here, one more next": {{5, 19, 19, 0}, {24, 9, 21, 0}, {33, 1, 7, 77}},
		"Packed of the first one 0":    {{5, 0, 20, 0}, {5, 9, 20, 0}, {14, 1, 7, 77}},
		"Packed of the first above":    {{5, 21, 20, 0}, {26, 9, 20, 0}, {35, 1, 7, 77}},
		"Packed of the middle one 0":   {{5, 20, 20, 0}, {25, 0, 20, 0}, {25, 1, 7, 77}},
		"Packed of the middle above":   {{5, 20, 20, 0}, {25, 21, 20, 0}, {46, 1, 7, 77}},
		"Packed of the middle below 0": {{5, 20, 20, 0}, {25, -1, 20, 0}, {24, 1, 7, 77}},
		"Packed of the last one 0":     {{5, 20, 20, 0}, {25, 9, 20, 0}, {34, 0, 7, 77}},
		"Packed of the last above":     {{5, 20, 20, 0}, {25, 9, 20, 0}, {34, 8, 7, 77}},
		"Sum of the first below 0":     {{5, 20, 20, -1}, {25, 9, 20, 0}, {34, 1, 7, 77}},
		"Sum of the first above":       {{5, 20, 20, 4294967296}, {25, 9, 20, 0}, {34, 1, 7, 77}},
		"Sum of the middle below 0":    {{5, 20, 20, 0}, {25, 9, 20, -1}, {34, 1, 7, 77}},
		"Sum of the middle above":      {{5, 20, 20, 0}, {25, 9, 20, 4294967296}, {34, 1, 7, 77}},
		"Sum of the last below 0":      {{5, 20, 20, 0}, {25, 9, 20, 0}, {34, 1, 7, -1}},
		"Sum of the last above":        {{5, 20, 20, 0}, {25, 9, 20, 0}, {34, 1, 7, 4294967296}},
		"a gap":                        {{5, 20, 20, 0}, {26, 9, 20, 0}, {35, 1, 7, 77}},
		"an overlap":                   {{5, 20, 20, 0}, {24, 9, 20, 0}, {33, 1, 7, 77}},
		"a gap ahead of the last":      {{5, 20, 20, 0}, {25, 9, 20, 0}, {35, 1, 7, 77}},
		"an overlap with the last":     {{5, 20, 20, 0}, {25, 9, 20, 0}, {33, 1, 7, 77}},
		"a gap and an overlap":         {{5, 20, 20, 0}, {26, 9, 20, 0}, {34, 1, 7, 77}},
		"At by Raw":                    {{5, 20, 20, 0}, {25, 9, 20, 0}, {45, 1, 7, 77}},
		"all at one place":             {{5, 20, 20, 0}, {5, 9, 20, 0}, {5, 1, 7, 77}},
		"the first At below 0":         {{-1, 20, 20, 0}, {19, 9, 20, 0}, {28, 1, 7, 77}},
		"from the end on":              {{34, 1, 7, 77}, {25, 9, 20, 0}, {5, 20, 20, 0}},
	} {
		wantValid(t, name, blocksOf(turned), 47, 20, false)
	}
}

// At may begin anywhere up to MaxNumber; where the last block ends is not asked.
func TestP11_3_Places(t *testing.T) {
	const most = api.MaxNumber
	for _, at := range []int{0, 1, 6, 70, most - 100, most - 33, most - 32} {
		wantValid(t, "a first At", stored(at, 48, 16), 48, 16, true)
	}
	wantValid(t, "the last At is the greatest", stored(most-32, 48, 16), 48, 16, true)
	for _, at := range []int{most - 31, most - 17, most - 16, most - 15, most, most + 1, math.MaxInt - 100, math.MinInt, -48, -16, -1} {
		wantValid(t, "an At that is none", stored(at, 48, 16), 48, 16, false)
	}
	wantValid(t, "one block at the greatest place", stored(most, 16, 16), 16, 16, true)
	wantValid(t, "one block of a byte there", stored(most, 1, 16), 1, 16, true)
	wantValid(t, "one block behind it", stored(most+1, 16, 16), 16, 16, false)
	wantValid(t, "one block at the greatest int", []api.Block{{At: math.MaxInt, Packed: 16, Raw: 16}}, 16, 16, false)
	wantValid(t, "round the greatest int", []api.Block{{At: math.MaxInt - 15, Packed: 16, Raw: 16}, {At: math.MinInt, Packed: 16, Raw: 16}}, 32, 16, false)
	wantValid(t, "round the least int", []api.Block{{At: 16, Packed: math.MinInt, Raw: 16}, {At: math.MinInt + 16, Packed: 16, Raw: 16}}, 32, 16, false)
}

// The bytes and the sums are not looked at: every sum of 32 bits may be that of a block.
func TestP11_3_AnySumOfSo(t *testing.T) {
	l := stored(0, 100, 16)
	for i, sum := range []int{0, 1, 1 << 31, 1<<31 - 1, 4294967294, 4294967295} {
		l[i].Sum = sum
	}
	wantValid(t, "sums", l, 100, 16, true)
}

func TestP11_3_Drawn(t *testing.T) {
	r := noise()
	good := 0
	for range 30000 {
		size, row := 14+r.IntN(40), r.IntN(200)
		l := stored(r.IntN(3)-1+r.IntN(2)*(api.MaxNumber-row), row, size)
		for k := range l {
			if cut := r.IntN(l[k].Raw + 1); r.IntN(2) == 0 && cut < l[k].Packed {
				l[k].Packed -= cut
				for j := range l[k+1:] {
					l[k+1+j].At -= cut
				}
			}
			l[k].Sum = int(r.Uint32())
		}
		if len(l) > 0 && r.IntN(2) == 0 {
			f := fields()[r.IntN(4)]
			v := f.of(&l[r.IntN(len(l))])
			*v = []int{*v - 1, *v + 1, strange()[r.IntN(len(strange()))]}[r.IntN(3)]
		}
		want := validByWords(l, row, size)
		wantValid(t, "drawn", l, row, size, want)
		if want {
			good++
		}
		other := row + r.IntN(3) - 1
		wantValid(t, "another row", l, other, size, validByWords(l, other, size))
	}
	if good < 3000 || good > 27000 {
		t.Errorf("%d of 30000 were valid", good)
	}
}

func TestP11_3_OfAllThatPackAnswers(t *testing.T) {
	r := noise()
	for _, size := range sizes() {
		for _, n := range lengths(size) {
			for _, row := range rows(r, n) {
				_, l := mustPack(t, row, size)
				if !block.Valid(l, n, size) {
					t.Errorf("the blocks of %d bytes, %d: %s", n, size, shown(l))
				}
			}
		}
	}
}
