package block_test

import (
	"math"
	"testing"

	"freight/api"
	"freight/press"
)

// seven are packed bytes of aaaaaaa.
func seven() []byte { return []byte{2, 'a', 0, 3} }

func TestP11_2_Raw(t *testing.T) {
	for _, raw := range []int{math.MinInt, math.MinInt + 1, -4096, -7, -1, 0, 4097, 4098, 65536, api.MaxNumber, math.MaxInt} {
		b := blockOf(seven(), raw)
		wantNoOpen(t, "Raw", seven(), b)
		b.Packed = raw
		wantNoOpen(t, "Raw and Packed", seven(), b)
	}
	wantNoOpen(t, "nothing at all", nil, api.Block{})
	wantNoOpen(t, "no bytes, one to come", nil, blockOf(nil, 1))
	for raw := -1; raw <= 4098; raw++ {
		wantOpenByWords(t, "Raw", seven(), blockOf(seven(), raw))
	}
}

// Stored and packed blocks of the greatest size, and of one more.
func TestP11_2_TheGreatestBlock(t *testing.T) {
	r := noise()
	for _, n := range []int{api.MaxBlock - 1, api.MaxBlock} {
		data := letters(r, n, 256)
		wantOpen(t, "stored", data, blockOf(data, n), data)
		packed, _ := press.Pack(times(n, 'a'))
		wantOpen(t, "packed", packed, blockOf(packed, n), times(n, 'a'))
	}
	data := letters(r, api.MaxBlock+1, 256)
	wantNoOpen(t, "stored, too long", data, blockOf(data, api.MaxBlock+1))
	packed, _ := press.Pack(times(api.MaxBlock, 'a'))
	wantNoOpen(t, "packed, too long", packed, blockOf(packed, api.MaxBlock+1))
}

func TestP11_2_Packed(t *testing.T) {
	for _, n := range []int{math.MinInt, -4, -1, 0, 1, 2, 3, 5, 6, 7, 8, 4096, 4097, math.MaxInt} {
		b := blockOf(seven(), 7)
		b.Packed = n
		wantNoOpen(t, "Packed", seven(), b)
	}
	for _, data := range [][]byte{[]byte("a"), []byte("ab"), unlike(100)} {
		n := len(data)
		wantOpen(t, "Packed is Raw", data, blockOf(data, n), data)
		wantNoOpen(t, "Packed is above Raw", data, blockOf(data, n-1))
	}
	wantNoOpen(t, "no packed bytes", nil, blockOf(nil, 0))
	wantNoOpen(t, "no packed bytes", []byte{}, blockOf(nil, 16))
}

func TestP11_2_OneByteLessAndOneMore(t *testing.T) {
	for _, x := range []struct {
		packed []byte
		raw    int
	}{{seven(), 7}, {[]byte("ab"), 2}, {unlike(40), 40}} {
		n := len(x.packed)
		for _, other := range [][]byte{nil, x.packed[:n-1], x.packed[1:], append(roomy(x.packed, 0, 0), 0), append([]byte{0}, x.packed...)} {
			b := blockOf(other, x.raw)
			b.Packed = n
			wantNoOpen(t, "bytes that are fewer or more, with their sum", other, b)
			wantNoOpen(t, "bytes that are fewer or more", other, blockOf(x.packed, x.raw))
		}
	}
}

// What stands behind the end of the list is not looked at.
func TestP11_2_RoomIsNoByte(t *testing.T) {
	b := blockOf(seven(), 7)
	wantOpen(t, "room", roomy(seven(), 20, 'x'), b, times(7, 'a'))
	wantNoOpen(t, "room", append([]byte(nil), seven()...)[:3], b)
}

func TestP11_2_Sum(t *testing.T) {
	for _, x := range []struct {
		packed []byte
		raw    int
	}{{seven(), 7}, {[]byte("ab"), 2}, {[]byte{0}, 1}, {times(40, 255), 40}} {
		b := blockOf(x.packed, x.raw)
		sum := b.Sum
		for i := range 32 {
			b.Sum = sum ^ 1<<i
			wantNoOpen(t, "one bit of the sum", x.packed, b)
		}
		for _, other := range []int{0, 1, -1, sum - 1, sum + 1, -sum, ^sum, sum - 1<<32, sum + 1<<32, sum | 1<<40, sum | math.MinInt, 1<<32 - 1, 1 << 32, int(int32(uint32(sum | 1<<31))), math.MinInt, math.MaxInt} {
			if other == sum {
				continue
			}
			b.Sum = other
			wantNoOpen(t, "another sum", x.packed, b)
		}
	}
}

// A sum that is 0 or 4294967295 is one like all others.
func TestP11_2_SumsAtTheEdges(t *testing.T) {
	// CRC-32 of four bytes takes every value once: these two have all bits unset, all bits set.
	for sum, packed := range map[int][]byte{0: {0x9d, 0x0a, 0xd9, 0x6d}, 4294967295: {0xff, 0xff, 0xff, 0xff}} {
		if sumByWords(packed) != sum {
			t.Fatalf("the sum of % x is %d", packed, sumByWords(packed))
		}
		wantOpen(t, "a sum at the edge", packed, api.Block{Packed: 4, Raw: 4, Sum: sum}, packed)
		wantNoOpen(t, "the other sum", packed, api.Block{Packed: 4, Raw: 4, Sum: 4294967295 - sum})
		wantNoOpen(t, "a sum outside", packed, api.Block{Packed: 4, Raw: 4, Sum: sum + 1<<32})
		wantNoOpen(t, "a sum outside", packed, api.Block{Packed: 4, Raw: 4, Sum: sum - 1<<32})
	}
}

func TestP11_2_FewerOrMoreThanRaw(t *testing.T) {
	wantOpen(t, "just as many", seven(), blockOf(seven(), 7), times(7, 'a'))
	for _, raw := range []int{5, 6, 8, 9, 100, 4096} {
		wantNoOpen(t, "fewer or more", seven(), blockOf(seven(), raw))
	}
	wantOpen(t, "Raw is Packed: stored", seven(), blockOf(seven(), 4), seven())
}

func TestP11_2_PackedOtherwise(t *testing.T) {
	for name, packed := range map[string][]byte{
		"as press.Pack does":            {2, 'a', 0, 6},
		"two literals, a match":         {4, 'a', 'a', 0, 5},
		"three literals, a match":       {8, 'a', 'a', 'a', 0, 4},
		"a literal, two matches":        {6, 'a', 0, 0, 0, 3},
		"a literal behind":              {2, 'a', 0, 5, 'a'},
		"a greater distance":            {4, 'a', 'a', 0, 0x45},
		"a match at a distance of four": {2 + 4, 'a', 0, 0, 0, 0xc3},
	} {
		wantOpen(t, name, packed, blockOf(packed, 10), times(10, 'a'))
		want, _ := press.Pack(times(10, 'a'))
		if name != "as press.Pack does" && string(want) == string(packed) {
			t.Errorf("%s: just as press.Pack does", name)
		}
	}
}

func TestP11_2_NoPackedBytes(t *testing.T) {
	for name, packed := range map[string][]byte{
		"nothing stands ahead":      {1, 0, 3},
		"half a match":              {2, 'a', 0},
		"a flag alone":              {0},
		"a flag behind a group":     {0, 1, 2, 3, 4, 5, 6, 7, 8, 0},
		"a bit without an item":     {2, 'a'},
		"a distance that is no one": {2, 'a', 0, 0x43},
	} {
		for raw := len(packed) + 1; raw < 80; raw++ {
			wantNoOpen(t, name, packed, blockOf(packed, raw))
		}
		wantOpen(t, name+", stored", packed, blockOf(packed, len(packed)), packed)
	}
}

func TestP11_2_AnyAt(t *testing.T) {
	for _, at := range []int{math.MinInt, -1, 0, 1, 70, api.MaxNumber, api.MaxNumber + 1, math.MaxInt} {
		b := blockOf(seven(), 7)
		b.At = at
		wantOpen(t, "packed", seven(), b, times(7, 'a'))
		b = blockOf([]byte("ab"), 2)
		b.At = at
		wantOpen(t, "stored", []byte("ab"), b, []byte("ab"))
		b.Sum++
		wantNoOpen(t, "another sum", []byte("ab"), b)
	}
}

// Blocks that are turned a little, held against the words.
func TestP11_2_Drawn(t *testing.T) {
	r := noise()
	opened := 0
	for range 20000 {
		data := patches(r, 1+r.IntN(150))
		packed, _ := press.Pack(data)
		if r.IntN(3) == 0 {
			packed = data
		}
		if r.IntN(4) == 0 {
			packed[r.IntN(len(packed))] ^= 1 << r.IntN(8)
		}
		b := blockOf(packed, len(data))
		for _, p := range []*int{&b.Packed, &b.Raw, &b.Sum} {
			if r.IntN(6) == 0 {
				*p += r.IntN(3) - 1
			}
		}
		if wantOpenByWords(t, "drawn", packed, b) {
			opened++
		}
	}
	if opened < 2000 || opened > 18000 {
		t.Errorf("%d of 20000 were opened", opened)
	}
}
