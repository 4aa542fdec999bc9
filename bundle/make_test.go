package bundle_test

import (
	"bytes"
	"math/rand/v2"
	"slices"
	"testing"

	"freight/api"
	"freight/bundle"
)

func TestP12_1_Widths(t *testing.T) {
	results, _ := stock(32)
	for width := 1; width <= 32; width++ {
		wantMake(t, "every width", width, results, [][]byte{[]byte("crate"), nil}, 16)
		wantMake(t, "every width, nothing", width, nil, nil, 16)
	}
	for _, width := range noWidths() {
		wantNoMake(t, "no width", width, nil, nil, 64, api.ErrArg, api.ID{})
		wantNoMake(t, "no width", width, results, [][]byte{[]byte("crate")}, 64, api.ErrArg, api.ID{})
	}
}

func TestP12_1_Sizes(t *testing.T) {
	results, blobs := stock(32)
	for _, size := range []int{16, 17, 31, 64, 255, 256, 257, 1000, 4095, 4096} {
		wantMake(t, "sizes", 32, results, blobs, size)
		wantMake(t, "sizes, nothing", 32, nil, nil, size)
	}
	for _, size := range noSizes() {
		wantNoMake(t, "no size", 32, nil, nil, size, api.ErrArg, api.ID{})
		wantNoMake(t, "no size", 32, results, blobs, size, api.ErrArg, api.ID{})
	}
}

func TestP12_1_ResultsThatAreNoTable(t *testing.T) {
	for what, results := range map[string][]api.Result{
		"falling":         {res(2, api.ID{}, 0), res(1, api.ID{}, 0)},
		"twice":           {res(1, api.ID{}, 0), res(1, api.ID{}, 0)},
		"twice, unlike":   {res(1, api.ID{}, 0), res(1, api.ID{9}, 1)},
		"falling at last": {res(1, api.ID{}, 0), res(3, api.ID{}, 0), res(2, api.ID{}, 0)},
		"a Code of 256":   {res(1, api.ID{}, 256)},
		"a Code below 0":  {res(1, api.ID{}, -1)},
		"a great Code":    {res(1, api.ID{}, 1<<40+3)},
		"33 of them":      actions(33, api.ID{}),
	} {
		wantNoMake(t, what, 32, results, nil, 64, api.ErrArg, api.ID{})
		wantNoMake(t, what, 32, results, [][]byte{[]byte("crate")}, 64, api.ErrArg, api.ID{})
	}
}

func TestP12_1_ResultsThatAreATable(t *testing.T) {
	last := api.Result{Action: api.ID{31: 1}, Root: api.ID{31: 255}, Code: 255}
	for what, results := range map[string][]api.Result{
		"none":                     nil,
		"a zero one":               {{}},
		"the last byte of actions": {{}, last},
		"32 of them":               actions(32, api.ID{0: 8, 31: 9}),
		"like roots":               {res(1, api.ID{4}, 255), res(2, api.ID{4}, 0)},
	} {
		wantMake(t, what, 32, results, nil, 64)
		wantMake(t, what, 1, results, [][]byte{[]byte("crate")}, 16)
	}
}

func TestP12_1_LengthsOfBlobs(t *testing.T) {
	for _, n := range []int{0, 1, 2, 15, 16, 17, 255, 256, 4095, 4096} {
		wantMake(t, "alone", 32, nil, [][]byte{times(n, 'q')}, 16)
		wantMake(t, "beside others", 32, nil, [][]byte{[]byte("crate"), times(n, 'q'), letters(noise(), n, 256)}, 100)
	}
	for _, n := range []int{4097, 4098, 65536, 65537} {
		wantNoMake(t, "too long", 32, nil, [][]byte{times(n, 'q')}, 16, api.ErrLong, api.ID{})
		wantNoMake(t, "too long, the last one", 32, nil, [][]byte{nil, []byte("crate"), times(n, 'q')}, 16, api.ErrLong, api.ID{})
		wantNoMake(t, "too long, the first one", 32, nil, [][]byte{times(n, 'q'), nil, []byte("crate")}, 16, api.ErrLong, api.ID{})
	}
}

func TestP12_1_LikeBlobsAreOne(t *testing.T) {
	r := noise()
	results, blobs := stock(32)
	want := mustMake(t, 32, results, blobs, 16)
	for range 20 {
		more := slices.Concat(blobs, blobs, [][]byte{nil, {}, blobs[1]})
		r.Shuffle(len(more), func(i, k int) { more[i], more[k] = more[k], more[i] })
		if got := mustMake(t, 32, results, more, 16); !bytes.Equal(got, want) {
			t.Errorf("like blobs: %d bytes, want %d", len(got), len(want))
		}
	}
}

// The order in which they are handed in says nothing.
func TestP12_1_OrderOfBlobs(t *testing.T) {
	r := noise()
	blobs := unlike(40, 70)
	want := mustMake(t, 32, nil, blobs, 64)
	for range 20 {
		r.Shuffle(len(blobs), func(i, k int) { blobs[i], blobs[k] = blobs[k], blobs[i] })
		if got := mustMake(t, 32, nil, blobs, 64); !bytes.Equal(got, want) {
			t.Error("another order: another bundle")
		}
	}
	if places, _ := rowOf(32, blobs); len(places) != 40 {
		t.Fatal("the blobs are not unlike")
	}
}

// clashing are unlike blobs of which these ids of width 1 have two, and which come in any order.
func clashing(r *rand.Rand, firsts ...byte) [][]byte {
	var blobs [][]byte
	for _, first := range firsts {
		found := 0
		for i := 0; found < 2; i++ {
			if b := []byte{byte(i), byte(i >> 8), 77}; idOf(1, b)[0] == first {
				blobs = append(blobs, b)
				found++
			}
		}
	}
	r.Shuffle(len(blobs), func(i, k int) { blobs[i], blobs[k] = blobs[k], blobs[i] })
	return blobs
}

func TestP12_1_Clash(t *testing.T) {
	r := noise()
	for _, first := range []byte{0, 1, 127, 128, 255} {
		blobs := clashing(r, first)
		wantNoMake(t, "two of one id", 1, nil, blobs, 16, api.ErrCollision, api.ID{first})
		wantMake(t, "of one alone", 1, nil, blobs[:1], 16)
		wantMake(t, "and twice", 1, nil, [][]byte{blobs[1], blobs[1], blobs[1]}, 16)
		wantNoMake(t, "a, b, a", 1, nil, [][]byte{blobs[0], blobs[1], blobs[0]}, 16, api.ErrCollision, api.ID{first})
		wantNoMake(t, "a, a, b", 1, nil, [][]byte{blobs[0], blobs[0], blobs[1]}, 16, api.ErrCollision, api.ID{first})
		wantMake(t, "no clash at width 32", 32, nil, blobs, 16)
	}
}

// A clash with no bytes at all, whose id is e3b0c4..
func TestP12_1_ClashWithNoBytes(t *testing.T) {
	empty := []byte{}
	for i := 0; ; i++ {
		b := []byte{byte(i), byte(i >> 8)}
		if idOf(1, b) == idOf(1, empty) {
			wantNoMake(t, "no bytes, some", 1, nil, [][]byte{empty, b}, 16, api.ErrCollision, api.ID{0xe3})
			wantNoMake(t, "some, no bytes", 1, nil, [][]byte{b, nil}, 16, api.ErrCollision, api.ID{0xe3})
			return
		}
	}
}

func TestP12_1_LeastClash(t *testing.T) {
	r := noise()
	for range 60 {
		firsts := []byte{byte(r.IntN(256)), byte(r.IntN(256)), byte(r.IntN(256)), byte(r.IntN(256))}
		blobs := clashing(r, firsts...)
		wantNoMake(t, "several", 1, nil, blobs, 16, api.ErrCollision, api.ID{slices.Min(firsts)})
	}
}

// Two ids that differ in their last byte alone are two.
func TestP12_1_NearlyAClash(t *testing.T) {
	byFirst := map[byte][]byte{}
	for i := 0; ; i++ {
		b := []byte{byte(i), byte(i >> 8), 3}
		id := idOf(2, b)
		if first, is := byFirst[id[0]]; is && idOf(2, first) != id {
			wantMake(t, "one byte alike", 2, nil, [][]byte{first, b}, 16)
			wantNoMake(t, "one byte alike, width 1", 1, nil, [][]byte{first, b}, 16, api.ErrCollision, api.ID{id[0]})
			return
		}
		byFirst[id[0]] = b
	}
}

func TestP12_1_HowManyBlobs(t *testing.T) {
	blobs := unlike(66, 5)
	wantMake(t, "63", 32, nil, blobs[:63], 16)
	wantMake(t, "64", 32, nil, blobs[:64], 16)
	wantMake(t, "64, and like ones", 32, nil, slices.Concat(blobs[:64], blobs[:64], blobs[10:30]), 16)
	wantMake(t, "64, no bytes among them", 32, nil, append(slices.Clone(blobs[:63]), nil), 16)
	wantNoMake(t, "65", 32, nil, blobs[:65], 16, api.ErrMany, api.ID{})
	wantNoMake(t, "66", 32, nil, blobs, 16, api.ErrMany, api.ID{})
	wantNoMake(t, "65, like ones among them", 32, nil, slices.Concat(blobs[:65], blobs[:65]), 16, api.ErrMany, api.ID{})
	wantNoMake(t, "64, and no bytes", 32, nil, append(slices.Clone(blobs[:64]), nil), 16, api.ErrMany, api.ID{})
}

func TestP12_1_HowLongARow(t *testing.T) {
	for _, kind := range [][]byte{nil, letters(noise(), 4095, 256)} {
		blobs := make([][]byte, 16)
		for i := range blobs {
			blobs[i] = append([]byte{byte(i)}, longer(bytes.Clone(kind), 4095-len(kind))...)
		}
		for _, size := range []int{16, 17, 1000, 4096} {
			wantMake(t, "the longest", 32, nil, blobs, size)
		}
		wantMake(t, "the longest, and no bytes", 32, nil, append(slices.Clone(blobs), nil), 4096)
		wantMake(t, "the longest, like ones", 32, nil, slices.Concat(blobs, blobs), 4096)
		wantNoMake(t, "one more", 32, nil, append(slices.Clone(blobs), []byte{9}), 4096, api.ErrBundleLong, api.ID{})
		wantNoMake(t, "one more", 32, nil, append(slices.Clone(blobs), []byte{9}, []byte{9}), 16, api.ErrBundleLong, api.ID{})
		blobs[3] = blobs[3][:4095]
		wantMake(t, "one fewer, and one", 32, nil, append(slices.Clone(blobs), []byte{9}), 4096)
		wantNoMake(t, "one fewer, and two", 32, nil, append(slices.Clone(blobs), []byte{9, 9}), 4096, api.ErrBundleLong, api.ID{})
	}
	wantMake(t, "64 of 1024", 32, nil, unlike(64, 1024), 16)
	wantNoMake(t, "64 of 1025", 32, nil, unlike(64, 1025), 16, api.ErrBundleLong, api.ID{})
}

// Which error stands where two would, and more than two.
func TestP12_1_OrderOfErrors(t *testing.T) {
	r := noise()
	long, clash := times(4097, 1), clashing(r, 40, 7)
	falling := []api.Result{res(2, api.ID{}, 0), res(1, api.ID{}, 0)}
	many, great := unlike(65, 30), unlike(20, 4096)
	for _, c := range []struct {
		what    string
		width   int
		results []api.Result
		blobs   [][]byte
		size    int
		want    api.Errno
		id      api.ID
	}{
		{"width, long", 0, nil, [][]byte{long}, 64, api.ErrArg, api.ID{}},
		{"size, long", 32, nil, [][]byte{long}, 15, api.ErrArg, api.ID{}},
		{"results, long", 32, falling, [][]byte{long}, 64, api.ErrArg, api.ID{}},
		{"size, clash", 1, nil, clash, 4097, api.ErrArg, api.ID{}},
		{"results, clash", 1, falling, clash, 64, api.ErrArg, api.ID{}},
		{"results, many", 32, falling, many, 64, api.ErrArg, api.ID{}},
		{"width, great", 33, nil, great, 64, api.ErrArg, api.ID{}},
		{"long, clash", 1, nil, append(slices.Clone(clash), long), 64, api.ErrLong, api.ID{}},
		{"long, many", 32, nil, append(slices.Clone(many), long), 64, api.ErrLong, api.ID{}},
		{"long, great", 32, nil, append(slices.Clone(great), long), 64, api.ErrLong, api.ID{}},
		{"clash, great", 1, nil, append(firstsApart(great), clash...), 64, api.ErrCollision, api.ID{7}},
		{"many, great", 32, nil, unlike(65, 4096), 64, api.ErrMany, api.ID{}},
	} {
		wantNoMake(t, c.what, c.width, c.results, c.blobs, c.size, c.want, c.id)
		if _, errno, id := makeByWords(c.width, c.results, c.blobs, c.size); errno != c.want || id != c.id {
			t.Errorf("%s: the words say %d %x", c.what, errno, id[:2])
		}
	}
}

// firstsApart are those whose ids of width 1 are above 40 and no two alike.
func firstsApart(blobs [][]byte) [][]byte {
	var apart [][]byte
	seen := map[byte]bool{}
	for _, b := range blobs {
		if first := idOf(1, b)[0]; first > 40 && !seen[first] {
			seen[first] = true
			apart = append(apart, b)
		}
	}
	return apart
}

// A clash stands ahead of too many: with the width 1 more than 64 ids, one of them twice.
func TestP12_1_ClashAheadOfMany(t *testing.T) {
	var blobs [][]byte
	for i := range 256 * 20 {
		blobs = append(blobs, []byte{byte(i), byte(i >> 8), 5})
	}
	apart := firstsApart(blobs)
	if len(apart) < 70 {
		t.Fatal("too few ids")
	}
	wantNoMake(t, "many alone", 1, nil, apart, 16, api.ErrMany, api.ID{})
	wantNoMake(t, "clash, many", 1, nil, slices.Concat(apart, clashing(noise(), 33)), 16, api.ErrCollision, api.ID{33})
	wantNoMake(t, "many clashes, many", 1, nil, blobs, 16, api.ErrCollision, api.ID{0})
}

// Whether the blobs are the results' need is not asked.
func TestP12_1_TheNeedIsNotAsked(t *testing.T) {
	results, blobs := stock(32)
	wantMake(t, "no blobs", 32, results, nil, 16)
	wantMake(t, "one lacks", 32, results, blobs[1:], 16)
	wantMake(t, "one beside", 32, results, append(blobs, []byte("beside")), 16)
	wantMake(t, "no results", 32, nil, blobs, 16)
	wantMake(t, "a root that is no tree", 32, actions(2, idOf(32, blobs[0])), blobs, 16)
}

// Each byte of a bundle, held against the table of Words by hand.
func TestP12_1_EachByte(t *testing.T) {
	one, two := []byte("crate"), times(40, 'q')
	if first, other := idOf(4, one), idOf(4, two); bytes.Compare(first[:], other[:]) > 0 {
		one, two = two, one
	}
	results := []api.Result{{Action: api.ID{1, 2}, Root: api.ID{3, 31: 4}, Code: 200}}
	data := mustMake(t, 4, results, [][]byte{two, one}, 16)
	row := slices.Concat(one, two)
	packed, blocks := packedOf(row, 16)
	first, other := idOf(4, one), idOf(4, two)

	want := []byte{'f', 'r', 't', 4, 0, 16}
	want = append(want, packed...)
	at := len(want)
	want = append(want, 0, 1, 1, 2)
	want = append(want, make([]byte, 30)...)
	want = append(want, 3)
	want = append(want, make([]byte, 30)...)
	want = append(want, 4, 200, 0, 2)
	want = append(want, first[:4]...)
	want = append(want, 0, byte(len(one)))
	want = append(want, other[:4]...)
	want = append(want, 0, byte(len(two)))
	entries := want[at:]
	from := len(want)
	want = append(want, 0, 3)
	for _, b := range blocks {
		want = append(want, 0, byte(b.Packed), 0, byte(b.Raw))
		want = append(want, byte(b.Sum>>24), byte(b.Sum>>16), byte(b.Sum>>8), byte(b.Sum))
	}
	index := want[from:]
	numbers := []int{at, len(entries), sumOf(entries), from, len(index), sumOf(index), len(want) + 31}
	for _, n := range numbers {
		want = append(want, byte(n>>24), byte(n>>16), byte(n>>8), byte(n))
	}
	want = append(want, 't', 'r', 'f')
	if !bytes.Equal(data, want) {
		t.Errorf("% x\nwant % x", data, want)
	}
	if len(packed) == len(row) || len(blocks) != 3 || blocks[0].Raw != 16 || blocks[2].Raw != 13 {
		t.Errorf("the blocks do not show what they should: %v", blocks)
	}
}

// drawn is an input of Make of which any may be wrong.
func drawn(r *rand.Rand) (int, []api.Result, [][]byte, int) {
	width := []int{1, 1, 2, 2, 3, 8, 31, 32, 32, 32, 0, 33}[r.IntN(12)]
	size := []int{16, 16, 17, 20, 32, 64, 100, 1000, 4096, 15, 4097}[r.IntN(11)]
	var results []api.Result
	for i := range r.IntN(6) {
		results = append(results, res(byte(10*i+r.IntN(11)), api.ID{byte(r.IntN(3))}, r.IntN(256)))
	}
	var blobs [][]byte
	for range r.IntN(r.IntN(80) + 1) {
		n := r.IntN(r.IntN(200) + 1)
		switch r.IntN(300) {
		case 0, 1, 2:
			n = 4096
		case 3:
			n = 4097
		case 4, 5, 6, 7, 8, 9, 10:
			n = r.IntN(4096)
		}
		blobs = append(blobs, letters(r, n, 1+r.IntN(256)))
		if r.IntN(4) == 0 {
			blobs = append(blobs, bytes.Clone(blobs[r.IntN(len(blobs))]))
		}
	}
	return width, results, blobs, size
}

func TestP12_1_Drawn(t *testing.T) {
	r := noise()
	met := map[api.Errno]int{}
	for range 1000 {
		width, results, blobs, size := drawn(r)
		met[wantMakeByWords(t, "drawn", width, results, blobs, size)]++
	}
	for _, errno := range []api.Errno{api.OK, api.ErrArg, api.ErrLong, api.ErrCollision} {
		if met[errno] < 5 {
			t.Errorf("drawn too seldom: %d, %d times", errno, met[errno])
		}
	}
}

// The longest that Make writes: 102603 bytes, below MaxFile.
func TestP12_2_TheLongest(t *testing.T) {
	data := mustMake(t, 32, actions(32, api.ID{1}), unlike(64, 1024), 16)
	if len(data) != 102603 || len(data) > api.MaxFile {
		t.Errorf("%d bytes, want 102603", len(data))
	}
	wantMake(t, "the longest", 32, actions(32, api.ID{1}), unlike(64, 1024), 16)
	face, err := bundle.Parse(data, 32)
	if err != nil || len(face.Blocks) != 4096 || len(face.Blobs) != 64 || len(face.Results) != 32 {
		t.Errorf("%s, %v", shown(face), err)
	}
}

// Rows that pack badly, at sizes at which there are many blocks: none is above that.
func TestP12_2_NoneIsLonger(t *testing.T) {
	r := noise()
	for _, size := range []int{16, 17, 18, 24, 32, 64, 4096} {
		for _, kinds := range []int{2, 16, 200, 256} {
			blobs := make([][]byte, 64)
			for i := range blobs {
				blobs[i] = letters(r, 1024, kinds)
			}
			if data := mustMake(t, 32, actions(32, api.ID{255}), blobs, size); len(data) > 102603 {
				t.Errorf("size %d: %d bytes", size, len(data))
			}
		}
	}
}
