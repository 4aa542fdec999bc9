package delta_test

import (
	"bytes"
	"fmt"
	"math"
	"slices"
	"testing"

	"freight/api"
)

// stock is a base of three blocks and a byte, and a delta of it with each kind of instruction.
func stock(width int) ([]byte, []byte, draft) {
	base, target := row("ABCx"), row("yBCAyx")
	return base, target, draftOf(width, 16, base, target, lit([]byte("y")), cop(1, 2), cop(0, 1), lit([]byte("yx")))
}

func TestP18_6_Made(t *testing.T) {
	for _, width := range widths() {
		base, target, d := stock(width)
		wantMade(t, fmt.Sprint("width ", width), base, d.bytes(), target)
	}
	base := row("ABx")
	wantMade(t, "no instruction", base, draftOf(32, 16, base, nil).bytes(), nil)
	wantMade(t, "nothing to nothing", nil, draftOf(32, 16, nil, nil).bytes(), nil)
	wantMade(t, "one literal", nil, draftOf(32, 4096, nil, row("AB"), lit(row("AB"))).bytes(), row("AB"))
	wantMade(t, "all blocks", base, draftOf(1, 16, base, row("AB"), cop(0, 2)).bytes(), row("AB"))
	wantMade(t, "a block again and again", base, draftOf(32, 16, base, row("BBB"), cop(1, 1), cop(1, 1), cop(1, 1)).bytes(), row("BBB"))
}

// What Make would not write, and is a delta all the same.
func TestP18_5_OfNoSignature(t *testing.T) {
	x, y := []byte("x"), []byte("y")
	base := row("ABx")
	for _, c := range []struct {
		target string
		steps  []step
	}{
		{"xy", []step{lit(x), lit(y)}},
		{"xxxy", []step{lit(x), lit(x), lit(x), lit(y)}},
		{"AB", []step{cop(0, 1), cop(1, 1)}},
		{"AxB", []step{lit(row("A")), lit(x), cop(1, 1)}},
		{"A", []step{lit(row("A")[:3]), lit(row("A")[3:])}},
	} {
		wantMade(t, c.target, base, draftOf(32, 16, base, row(c.target), c.steps...).bytes(), row(c.target))
	}
	// The later one of two alike blocks.
	wantMade(t, "the later one", row("AA"), draftOf(32, 16, row("AA"), row("A"), cop(1, 1)).bytes(), row("A"))
}

// A base of a delta may have more blocks than a signature has.
func TestP18_5_ManyBlocks(t *testing.T) {
	base := letters(noise(), api.MaxFile, 256)
	blocks := api.MaxFile / 16
	wantMade(t, "all of them", base, draftOf(32, 16, base, base, cop(0, blocks)).bytes(), base)
	wantMade(t, "the last one", base, draftOf(32, 16, base, base[len(base)-16:], cop(blocks-1, 1)).bytes(), base[len(base)-16:])
	wantNoApply(t, "one more", base, draftOf(32, 16, base, base, cop(0, blocks+1)).bytes(), api.ErrDelta)
	wantNoApply(t, "behind the last one", base, draftOf(32, 16, base, base[:16], cop(blocks, 1)).bytes(), api.ErrDelta)
}

func TestP18_5_MaxParts(t *testing.T) {
	base := row("A")
	for _, one := range []step{cop(0, 1), lit([]byte("x")), lit([]byte("xyz"))} {
		piece := one.text
		if one.kind == copyKind {
			piece = base
		}
		of := func(n int) ([]byte, []byte) {
			target := bytes.Repeat(piece, n)
			return target, draftOf(32, 16, base, target, slices.Repeat([]step{one}, n)...).bytes()
		}
		target, data := of(api.MaxParts)
		wantMade(t, "MaxParts", base, data, target)
		_, data = of(api.MaxParts + 1)
		wantNoApply(t, "MaxParts + 1", base, data, api.ErrDelta)
	}
}

func TestP18_5_MaxFile(t *testing.T) {
	row := letters(noise(), api.MaxFile, 256)
	for _, width := range []int{1, 32} {
		n := literalOf(width, api.MaxFile)
		of := func(n int) []byte { return draftOf(width, 16, nil, row[:n], lit(row[:n])).bytes() }
		if len(of(n)) != api.MaxFile {
			t.Fatalf("a delta of %d bytes", len(of(n)))
		}
		wantMade(t, "MaxFile", nil, of(n), row[:n])
		wantNoApply(t, "MaxFile + 1", nil, of(n+1), api.ErrDelta)
		wantNoApply(t, "a target of MaxFile bytes", nil, of(api.MaxFile), api.ErrDelta)
	}
}

// A target of MaxFile bytes is made of few, and one of a byte more is not.
func TestP18_5_LongTargets(t *testing.T) {
	base := letters(noise(), api.MaxFile, 256)
	for _, n := range []int{api.MaxFile, api.MaxFile + 1, api.MaxFile + 4096} {
		target := append(bytes.Clone(base), make([]byte, n-api.MaxFile)...)
		d := draftOf(32, 4096, base, target, cop(0, 32))
		if n == api.MaxFile {
			wantMade(t, "MaxFile", base, d.bytes(), target)
			continue
		}
		d.steps = append(d.steps, lit(target[api.MaxFile:]))
		wantNoApply(t, fmt.Sprint(n, " bytes"), base, d.bytes(), api.ErrDelta)
	}
	// A length that wraps round, or that no memory has.
	d := draftOf(32, 4096, base, base, slices.Repeat([]step{cop(0, 32)}, api.MaxParts)...)
	wantNoApply(t, "2048 times the base", base, d.bytes(), api.ErrDelta)
	for _, n := range []int{api.MaxFile + 1, 1 << 28, api.MaxNumber} {
		pieces := draftOf(32, 16, nil, nil).pieces()
		pieces[pieceTarget] = num(n)
		wantNoApply(t, "a target said to be long", nil, sealed(pieces...), api.ErrDelta)
		pieces = draftOf(32, 16, nil, nil).pieces()
		pieces[pieceBase] = num(n)
		wantNoApply(t, "a base said to be long", nil, sealed(pieces...), api.ErrDelta)
	}
}

// wrongDrafts are what the words of a delta may not be, one thing at a time, each with its sum.
func wrongDrafts() map[string][]byte {
	all := map[string][]byte{}
	piece := func(what string, at int, form []byte) {
		_, _, d := stock(8)
		pieces := d.pieces()
		pieces[at] = form
		all[what] = sealed(pieces...)
	}
	other := func(what string, change func(d *draft)) {
		_, _, d := stock(8)
		change(&d)
		all[what] = d.bytes()
	}
	for b := range 256 {
		if b != 68 {
			piece(fmt.Sprint("the first byte ", b), pieceMark, []byte{byte(b)})
		}
		if b != copyKind && b != literalKind {
			piece(fmt.Sprint("a kind ", b), pieceSteps, []byte{byte(b)})
			piece(fmt.Sprint("the last kind ", b), pieceSteps+9, []byte{byte(b)})
		}
	}
	for _, v := range []int{0, 7, 9, 33, 64, api.MaxNumber} {
		piece(fmt.Sprint("width ", v), pieceWidth, num(v))
	}
	for _, v := range []int{0, 1, 15, 4097, api.MaxNumber} {
		piece(fmt.Sprint("size ", v), pieceSize, num(v))
	}
	for _, v := range []int{0, 31, 47, api.MaxFile + 1, api.MaxNumber} {
		piece(fmt.Sprint("a base of ", v), pieceBase, num(v)) // it has too few blocks, or is too long
	}
	for _, v := range []int{0, 50, 52, api.MaxFile, api.MaxFile + 1, api.MaxNumber} {
		piece(fmt.Sprint("a target of ", v), pieceTarget, num(v))
	}
	for _, v := range []int{0, 3, 5, api.MaxParts, api.MaxParts + 1, api.MaxNumber} {
		piece(fmt.Sprint("instructions ", v), pieceCount, num(v))
	}
	for _, c := range [][2]int{{0, 0}, {1, 0}, {3, 0}, {3, 1}, {2, 2}, {1, 3}, {0, 4}, {4, 1}, {api.MaxNumber, 1}, {1, api.MaxNumber}, {api.MaxNumber, api.MaxNumber}} {
		other(fmt.Sprint("a COPY ", c), func(d *draft) {
			d.steps[1] = cop(c[0], c[1])
			d.target = 1 + 16*c[1] + 16 + 2
			if d.target > api.MaxFile {
				d.target = 51
			}
		})
		other(fmt.Sprint("one COPY more ", c), func(d *draft) { d.steps = append(d.steps, cop(c[0], c[1])) })
	}
	other("a LITERAL of no bytes", func(d *draft) { d.steps[0].text, d.target = nil, d.target-1 })
	other("one more of no bytes", func(d *draft) { d.steps = append(d.steps, lit(nil)) })
	other("one LITERAL more", func(d *draft) { d.steps = append(d.steps, lit([]byte("z"))) })
	other("one LITERAL fewer", func(d *draft) { d.steps = d.steps[:3] })
	other("one COPY fewer", func(d *draft) { d.steps = slices.Delete(d.steps, 2, 3) })
	other("a LITERAL a byte longer", func(d *draft) { d.steps[3].text = []byte("yxz") })
	other("a LITERAL a byte shorter", func(d *draft) { d.steps[3].text = []byte("y") })
	other("a COPY of a block fewer", func(d *draft) { d.steps[1].count = 1 })
	for _, n := range []int{0, 2, 60, 200, api.MaxFile + 1, api.MaxNumber} {
		piece(fmt.Sprint("a text said to have ", n), pieceSteps+1, num(n))
	}
	return all
}

func TestP18_5_NoDelta(t *testing.T) {
	base, _, _ := stock(8)
	for what, data := range wrongDrafts() {
		wantNoApply(t, what, base, data, api.ErrDelta)
		if _, is := readByWords(data); is {
			t.Errorf("%s: is a delta", what)
		}
	}
}

func TestP18_5_NumbersInTheirOneForm(t *testing.T) {
	base, _, d := stock(8)
	at := map[int]int{pieceWidth: 8, pieceSize: 16, pieceBase: 49, pieceTarget: 51, pieceCount: 4}
	at[pieceSteps+1], at[pieceSteps+4], at[pieceSteps+5], at[pieceSteps+7] = 1, 1, 2, 0
	for k, v := range at {
		if got := d.pieces()[k]; !bytes.Equal(got, num(v)) {
			t.Fatalf("piece %d is % x", k, got)
		}
		for _, form := range [][]byte{long(v), tooLong(v), {128}, {255, 255, 255, 255, 8}, {255, 255, 255, 255, 255, 1}, {}} {
			pieces := d.pieces()
			pieces[k] = form
			wantNoApply(t, fmt.Sprintf("the number %d as % x", k, form), base, sealed(pieces...), api.ErrDelta)
		}
	}
}

func TestP18_5_CutAnywhere(t *testing.T) {
	for _, width := range widths() {
		base, _, d := stock(width)
		data := d.bytes()
		for n := range data {
			wantNoApply(t, "cut", base, data[:n], api.ErrDelta)
			if n != len(data)-4 { // there all is left but the sum itself
				wantNoApply(t, "cut and summed anew", base, sealed(data[:n]), api.ErrDelta)
			}
			wantNoApply(t, "cut at the front", base, data[n+1:], api.ErrDelta)
		}
	}
}

func TestP18_5_BytesBehind(t *testing.T) {
	base, _, d := stock(8)
	data := d.bytes()
	body := data[:len(data)-4]
	for b := range 256 {
		wantNoApply(t, "a byte behind", base, append(bytes.Clone(data), byte(b)), api.ErrDelta)
		wantNoApply(t, "a byte behind the body", base, sealed(body, []byte{byte(b)}), api.ErrDelta)
		wantNoApply(t, "a byte ahead", base, sealed([]byte{byte(b)}, body), api.ErrDelta)
	}
	wantNoApply(t, "an instruction behind", base, sealed(body, []byte{2, 1, 'z'}), api.ErrDelta)
	wantNoApply(t, "a sum of its sum", base, sealed(data), api.ErrDelta)
	wantNoApply(t, "twice", base, slices.Concat(data, data), api.ErrDelta)
	wantNoApply(t, "very many behind", base, sealed(body, make([]byte, 300000)), api.ErrDelta)
}

func TestP18_5_AByteBehindAnEarlySum(t *testing.T) {
	met := 0
	for width := 1; width <= api.MaxWidth; width++ {
		base, _, d := stock(width)
		data := d.bytes()
		if early, is := withEarlySum(data[:len(data)-4]); is {
			wantNoApply(t, fmt.Sprint("width ", width), base, early, api.ErrDelta)
			met++
		}
	}
	if met == 0 {
		t.Error("no such bytes")
	}
}

func TestP18_5_Sum(t *testing.T) {
	base, _, d := stock(8)
	data := d.bytes()
	body := data[:len(data)-4]
	sum := crcByWords(body)
	for _, other := range []int{0, sum ^ 1, sum ^ 1<<31, ^sum & math.MaxUint32, sum + 1, sum - 1} {
		wantNoApply(t, fmt.Sprint("the sum ", other), base, slices.Concat(body, word(other)), api.ErrDelta)
	}
	turned := word(sum)
	slices.Reverse(turned)
	wantNoApply(t, "the sum, its lowest byte first", base, slices.Concat(body, turned), api.ErrDelta)
	wantNoApply(t, "no sum", base, body, api.ErrDelta)
	for _, none := range [][]byte{nil, {}, {68}, {0, 0, 0, 0}, sealed(), sealed([]byte{68})} {
		wantNoApply(t, "no bytes", base, none, api.ErrDelta)
	}
	wantNoApply(t, "a signature", base, mustEncode(t, mustSign(t, 8, base, 16)), api.ErrDelta)
}

// likeID is a row of so many bytes, another one than that, that has its id by the width 1.
func likeID(t testing.TB, of []byte, n int) []byte {
	t.Helper()
	r := noise()
	for range 100000 {
		other := letters(r, n, 256)
		if idByWords(1, other) == idByWords(1, of) && !bytes.Equal(other, of) {
			return other
		}
	}
	t.Fatal("no row of that id")
	return nil
}

func TestP18_6_OtherBases(t *testing.T) {
	for _, width := range widths() {
		base, _, d := stock(width)
		data := d.bytes()
		for _, other := range [][]byte{nil, base[:48], base[1:], append(bytes.Clone(base), 'x'), row("ABC"), times(api.MaxFile, 1)} {
			wantNoApply(t, fmt.Sprint("a base of ", len(other)), other, data, api.ErrBase)
		}
	}
	base, _, d := stock(32)
	data := d.bytes()
	for k := range base { // each byte is in the base's id, those behind the last block too
		other := bytes.Clone(base)
		other[k] ^= 1
		wantNoApply(t, fmt.Sprint("a base with another byte ", k), other, data, api.ErrBase)
	}
	// Of one id, but another length.
	base, _, d = stock(1)
	for _, n := range []int{len(base) - 1, len(base) + 1, len(base) + 16, 16} {
		wantNoApply(t, fmt.Sprint("one id, ", n, " bytes"), likeID(t, base, n), d.bytes(), api.ErrBase)
	}
}

// A base that clashes with the delta's is as good as it, up to what comes of it.
func TestP18_6_AClashingBase(t *testing.T) {
	base, target := row("ABCx"), row("yx")
	other := likeID(t, base, len(base))
	wantMade(t, "literals alone", other, draftOf(1, 16, base, target, lit(target)).bytes(), target)
	met := map[api.Errno]int{}
	for k := range 600 {
		end := []byte{byte(k), byte(k >> 8)}
		target := append(row("A"), end...)
		data := draftOf(1, 16, base, target, cop(0, 1), lit(end)).bytes()
		met[wantApply(t, "a clashing base", other, data)]++
	}
	if met[api.ErrTarget] == 0 || met[api.OK] == 0 || len(met) != 2 {
		t.Errorf("%v", met)
	}
}

func TestP18_6_OtherTargets(t *testing.T) {
	for _, width := range widths() {
		base, _, _ := stock(width)
		for at := range width {
			_, _, d := stock(width)
			d.targetID[at] ^= 1
			wantNoApply(t, fmt.Sprint("width ", width, ", byte ", at), base, d.bytes(), api.ErrTarget)
		}
	}
	base, _, d := stock(32)
	d.steps[0].text = []byte("z")
	wantNoApply(t, "another byte", base, d.bytes(), api.ErrTarget)
	_, _, d = stock(32)
	d.steps[1].first = 0
	wantNoApply(t, "other blocks", base, d.bytes(), api.ErrTarget)
	_, _, d = stock(32)
	d.steps[1], d.steps[2] = d.steps[2], d.steps[1]
	wantNoApply(t, "another order", base, d.bytes(), api.ErrTarget)
	d = draftOf(32, 16, base, nil)
	d.targetID[0] ^= 1
	wantNoApply(t, "nothing", base, d.bytes(), api.ErrTarget)
}

func TestP18_6_TheFirstErrorIsTold(t *testing.T) {
	tooLong := make([]byte, api.MaxFile+1)
	base, _, d := stock(32)
	good := d.bytes()
	d.targetID[0] ^= 1
	target := d.bytes()
	bad := bytes.Clone(good)
	bad[0] = 0
	for _, data := range [][]byte{nil, bad, good, target, tooLong} {
		wantNoApply(t, "a long base", tooLong, data, api.ErrLong)
	}
	for _, of := range [][]byte{nil, base[1:], tooLong[:api.MaxFile]} {
		wantNoApply(t, "no delta, another base", of, bad, api.ErrDelta)
		wantNoApply(t, "no delta, another base", of, nil, api.ErrDelta)
		wantNoApply(t, "another base, another target", of, target, api.ErrBase)
	}
	for what, data := range wrongDrafts() {
		wantNoApply(t, what+", another base", row("zz"), data, api.ErrDelta)
	}
	wantNoApply(t, "another target", base, target, api.ErrTarget)
	// What no base could be is asked of the delta, not of the base.
	pieces := draftOf(32, 16, nil, nil).pieces()
	pieces[pieceBase] = num(api.MaxFile + 1)
	wantNoApply(t, "a delta of a base that is too long", tooLong, sealed(pieces...), api.ErrLong)
	wantNoApply(t, "a delta of a base that is too long", nil, sealed(pieces...), api.ErrDelta)
}
