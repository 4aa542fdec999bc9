package delta_test

import (
	"bytes"
	"fmt"
	"math"
	"slices"
	"testing"

	"freight/api"
	"freight/delta"
)

// some is a signature of three blocks, with bytes behind them.
func some(t testing.TB, width int) api.Signature {
	t.Helper()
	return mustSign(t, width, row("ABCx"), 16)
}

// blank is a signature of that many bytes, with all its blocks, that no base has.
func blank(width, size, length int) api.Signature {
	s := api.Signature{Width: width, Size: size, Length: length, Base: api.ID{7}}
	for k := range length / size {
		s.Blocks = append(s.Blocks, api.Weak{Sum: k, ID: api.ID{byte(k)}})
	}
	return s
}

func TestP18_2_Form(t *testing.T) {
	s := api.Signature{Width: 2, Size: 300, Length: 700, Base: api.ID{0xaa, 0xbb}}
	s.Blocks = []api.Weak{{Sum: 0, ID: api.ID{1, 2}}, {Sum: 4294967295, ID: api.ID{0, 3}}}
	want := []byte{83, 2, 0xac, 0x02, 0xbc, 0x05, 0xaa, 0xbb, 0, 0, 0, 0, 1, 2, 0xff, 0xff, 0xff, 0xff, 0, 3}
	want = append(want, word(crcByWords(want))...)
	if data := mustEncode(t, s); !bytes.Equal(data, want) {
		t.Errorf("% x, want % x", data, want)
	}
	for _, width := range widths() {
		for _, size := range sizes() {
			wantEncode(t, "of a base", mustSign(t, width, letters(noise(), 9000, 256), size))
			wantEncode(t, "of no bytes", mustSign(t, width, nil, size))
		}
	}
}

// What may be at the edges is taken, though no base has it.
func TestP18_2_EdgesThatMayBe(t *testing.T) {
	for _, s := range []api.Signature{
		blank(1, 16, 0), blank(32, 16, 0), blank(32, 4096, 0), blank(1, 16, 15), blank(1, 16, 16), blank(1, 4096, 4095),
		blank(32, 4096, 4096), blank(32, 4096, api.MaxFile), blank(32, 64, api.MaxFile), blank(1, 16, 16*api.MaxParts),
		blank(32, 16, 16*api.MaxParts+15), {Width: 1, Size: 16}, {Width: 32, Size: 4096, Length: 4095},
	} {
		if wantEncode(t, "at the edge", s) != api.OK {
			t.Errorf("%s: may not be", shownSignature(s))
		}
		wantMake(t, "at the edge", s, row("xAy"))
		back, errno := delta.Decode(mustEncode(t, s))
		if errno != api.OK || !likeSignature(back, s) {
			t.Errorf("%s: back %s, %d", shownSignature(s), shownSignature(back), errno)
		}
	}
	for _, sum := range []int{0, 1, 65535, 2147483647, 2147483648, 4294967295} {
		s := some(t, 4)
		s.Blocks[1].Sum = sum
		if back, errno := delta.Decode(mustEncode(t, s)); errno != api.OK || !likeSignature(back, s) {
			t.Errorf("the sum %d: %s, %d", sum, shownSignature(back), errno)
		}
	}
}

// noSignatures are what a signature may not be, one thing at a time.
func noSignatures(t testing.TB) map[string]api.Signature {
	t.Helper()
	all := map[string]api.Signature{"the zero Signature": {}}
	add := func(what string, change func(s *api.Signature)) {
		s := copyOf(some(t, 4))
		change(&s)
		all[what] = s
	}
	for _, width := range noWidths() {
		add(fmt.Sprint("width ", width), func(s *api.Signature) { s.Width = width })
	}
	for _, size := range noSizes() {
		add(fmt.Sprint("size ", size), func(s *api.Signature) { s.Size = size })
		add(fmt.Sprint("no blocks, size ", size), func(s *api.Signature) { s.Size, s.Length, s.Blocks = size, 0, nil })
	}
	for _, length := range []int{math.MinInt, -16, -1, math.MaxInt, api.MaxFile + 1} {
		add(fmt.Sprint("length ", length), func(s *api.Signature) { s.Length = length })
		add(fmt.Sprint("no blocks, length ", length), func(s *api.Signature) { s.Length, s.Blocks = length, nil })
	}
	add("size 15, just its blocks", func(s *api.Signature) { *s = blank(4, 15, 45) })
	add("size 4097, just its blocks", func(s *api.Signature) { *s = blank(4, 4097, 9000) })
	add("MaxFile + 1, just its blocks", func(s *api.Signature) { *s = blank(4, 4096, api.MaxFile+1) })
	add("MaxParts + 1 blocks", func(s *api.Signature) { *s = blank(4, 16, 16*api.MaxParts+16) })
	add("MaxFile by 16", func(s *api.Signature) { *s = blank(4, 16, api.MaxFile) })
	add("a length for a block fewer", func(s *api.Signature) { s.Length = 47 })
	add("a length for a block more", func(s *api.Signature) { s.Length = 64 })
	add("a block too many", func(s *api.Signature) { s.Blocks = append(s.Blocks, s.Blocks[0]) })
	add("a block too few", func(s *api.Signature) { s.Blocks = s.Blocks[:2] })
	add("no block", func(s *api.Signature) { s.Blocks = nil })
	for k := range 3 {
		for _, sum := range []int{math.MinInt, -1, 4294967296, math.MaxInt} {
			add(fmt.Sprint("block ", k, ", sum ", sum), func(s *api.Signature) { s.Blocks[k].Sum = sum })
		}
		for at := 4; at < 32; at++ {
			add(fmt.Sprint("block ", k, ", byte ", at), func(s *api.Signature) { s.Blocks[k].ID[at] = 1 })
		}
	}
	for at := 4; at < 32; at++ {
		add(fmt.Sprint("the base's byte ", at), func(s *api.Signature) { s.Base[at] = 128 })
	}
	add("a width less by one", func(s *api.Signature) { s.Width = 3; s.Base[3], s.Blocks[0].ID[3] = 1, 1 })
	return all
}

func TestP18_2_MayNotBe(t *testing.T) {
	for what, s := range noSignatures(t) {
		wantNoSignature(t, what, s)
		if mayBeByWords(s) {
			t.Errorf("%s: may be", what)
		}
	}
}

func TestP18_3_Back(t *testing.T) {
	r := noise()
	for _, width := range widths() {
		for _, size := range sizes() {
			for _, n := range []int{0, 1, 15, 16, size - 1, size, size + 1, 5*size + 3} {
				s := mustSign(t, width, letters(r, n, 256), size)
				back, errno := delta.Decode(mustEncode(t, s))
				if errno != api.OK || !likeSignature(back, s) {
					t.Errorf("%s: back %s, %d", shownSignature(s), shownSignature(back), errno)
				}
			}
		}
	}
}

func TestP18_3_CutAnywhere(t *testing.T) {
	for _, width := range widths() {
		data := mustEncode(t, some(t, width))
		for n := range data {
			wantNoDecode(t, "cut", data[:n])
			if n != len(data)-4 { // there all is left but the sum itself
				wantNoDecode(t, "cut and summed anew", sealed(data[:n]))
			}
			wantNoDecode(t, "cut at the front", data[n+1:])
		}
	}
}

func TestP18_3_BytesBehind(t *testing.T) {
	for _, s := range []api.Signature{some(t, 4), mustSign(t, 1, nil, 16)} {
		data := mustEncode(t, s)
		body := data[:len(data)-4]
		for b := range 256 {
			wantNoDecode(t, "a byte behind", append(bytes.Clone(data), byte(b)))
			wantNoDecode(t, "a byte behind the body", sealed(body, []byte{byte(b)}))
			wantNoDecode(t, "a byte ahead", sealed([]byte{byte(b)}, body))
		}
		wantNoDecode(t, "a block behind the body", sealed(body, make([]byte, 4+s.Width)))
		wantNoDecode(t, "a sum of its sum", sealed(data))
		wantNoDecode(t, "twice", slices.Concat(data, data))
		wantNoDecode(t, "very many behind", sealed(body, make([]byte, 300000)))
	}
}

func TestP18_3_AByteBehindAnEarlySum(t *testing.T) {
	met := 0
	for width := 1; width <= api.MaxWidth; width++ {
		data := mustEncode(t, some(t, width))
		if early, is := withEarlySum(data[:len(data)-4]); is {
			wantNoDecode(t, fmt.Sprint("width ", width), early)
			met++
		}
	}
	if met == 0 {
		t.Error("no such bytes")
	}
}

// long is a number in a form that is not its shortest one.
func long(v int) []byte {
	form := num(v)
	form[len(form)-1] |= 128
	return append(form, 0)
}

// tooLong is a number that has no form.
func tooLong(v int) []byte { return append(num(v + 1<<35)[:5], 0) }

func TestP18_3_NumbersInTheirOneForm(t *testing.T) {
	s := some(t, 4)
	for at, v := range map[int]int{1: s.Width, 2: s.Size, 3: s.Length} {
		for _, form := range [][]byte{long(v), tooLong(v), {128}, {255, 255, 255, 255, 8}, {255, 255, 255, 255, 255, 1}, {}} {
			pieces := signaturePieces(s)
			pieces[at] = form
			wantNoDecode(t, fmt.Sprintf("the number at %d as % x", at, form), sealed(pieces...))
		}
	}
}

// What may not be is not read either, though it is written in the form, with its sum.
func TestP18_3_WrittenButMayNotBe(t *testing.T) {
	for what, s := range noSignatures(t) {
		if s.Width < 1 || s.Width > 32 || s.Size < 0 || s.Length < 0 {
			continue // there is no form of these
		}
		data := sealed(signaturePieces(s)...)
		if wantDecode(t, what, data) == api.OK {
			continue // what cannot be written is not in the form: bytes behind the width, great sums
		}
		wantNoDecode(t, what, data)
	}
	for _, change := range []struct {
		what string
		s    api.Signature
	}{
		{"size 15", blank(4, 15, 45)}, {"size 1", blank(4, 1, 45)}, {"size 4097", blank(4, 4097, 9000)},
		{"MaxFile + 1", blank(4, 4096, api.MaxFile+1)}, {"MaxParts + 1", blank(4, 16, 16*api.MaxParts+16)},
		{"8192 blocks", blank(4, 16, api.MaxFile)},
		{"size 0", api.Signature{Width: 4}}, {"size 0, a length", api.Signature{Width: 4, Length: 40}},
		{"the greatest length", api.Signature{Width: 4, Size: 16, Length: api.MaxNumber}},
		{"the greatest size", api.Signature{Width: 4, Size: api.MaxNumber, Length: 16}},
	} {
		wantNoDecode(t, change.what, sealed(signaturePieces(change.s)...))
	}
	for _, width := range []int{0, 33, 34, api.MaxNumber} {
		for _, bytesOf := range []int{0, 32, 33, 34} {
			wantNoDecode(t, fmt.Sprint("width ", width), sealed([]byte{83}, num(width), num(16), num(0), make([]byte, bytesOf)))
		}
	}
}

func TestP18_3_FirstByte(t *testing.T) {
	pieces := signaturePieces(some(t, 4))
	for b := range 256 {
		pieces[0] = []byte{byte(b)}
		if b == 83 {
			wantDecode(t, "its own first byte", sealed(pieces...))
			continue
		}
		wantNoDecode(t, fmt.Sprint("the first byte ", b), sealed(pieces...))
	}
	wantNoDecode(t, "a delta", mustMake(t, some(t, 4), row("ABCx")))
}

func TestP18_3_Sum(t *testing.T) {
	data := mustEncode(t, some(t, 4))
	body := data[:len(data)-4]
	sum := crcByWords(body)
	for _, other := range []int{0, sum ^ 1, sum ^ 1<<31, ^sum & 0xffffffff, sum + 1, sum - 1} {
		wantNoDecode(t, fmt.Sprint("the sum ", other), slices.Concat(body, word(other)))
	}
	turned := word(sum)
	slices.Reverse(turned)
	wantNoDecode(t, "the sum, its lowest byte first", slices.Concat(body, turned))
	wantNoDecode(t, "no sum", body)
	for _, none := range [][]byte{nil, {}, {83}, {0, 0, 0, 0}, sealed(), sealed([]byte{83})} {
		wantNoDecode(t, "no bytes", none)
	}
}
