package delta_test

import (
	"bytes"
	"fmt"
	"slices"
	"testing"

	"freight/api"
	"freight/delta"
)

func TestP18_4_Form(t *testing.T) {
	base := row("ABx")
	data := mustMake(t, mustSign(t, 2, base, 16), row("xBABy"))
	a, b := idByWords(2, base), idByWords(2, row("xBABy"))
	want := []byte{68, 2, 16, 33, a[0], a[1], 50, b[0], b[1], 4, 2, 1, 'x', 1, 1, 1, 1, 0, 2, 2, 1, 'y'}
	want = append(want, word(crcByWords(want))...)
	if !bytes.Equal(data, want) {
		t.Errorf("% x, want % x", data, want)
	}
}

// Numbers of more than one byte: blocks above 127, lengths, texts.
func TestP18_4_GreatNumbers(t *testing.T) {
	base := letters(noise(), 2048*16+5, 256)
	s := mustSign(t, 32, base, 16)
	text := letters(noise(), 300, 7)
	target := slices.Concat(base[200*16:500*16], text, base[2047*16:])
	wantSteps(t, "great numbers", s, target, cop(200, 300), lit(text), cop(2047, 1), lit(base[2048*16:]))
	wantMake(t, "great numbers", s, target)
	wantMade(t, "great numbers", base, mustMake(t, s, target), target)
}

func TestP18_4_TheLeastOfAlikeBlocks(t *testing.T) {
	for _, c := range []struct {
		base, target string
		want         []step
	}{
		{"BABAx", "A", []step{cop(1, 1)}},
		{"BABA", "AA", []step{cop(1, 1), cop(1, 1)}},
		{"BABA", "BABA", []step{cop(0, 4)}},
		{"AAAA", "A", []step{cop(0, 1)}},
		{"AAAA", "AAAAA", []step{cop(0, 4), cop(0, 1)}},
		{"AAAA", "AAAAAAAA", []step{cop(0, 4), cop(0, 4)}},
		// The run goes on from the least block, though a longer one begins at another.
		{"ABACD", "ACD", []step{cop(0, 1), cop(3, 2)}},
		{"ABACD", "ABACD", []step{cop(0, 5)}},
		{"CABDAB", "ABAB", []step{cop(1, 2), cop(1, 2)}},
	} {
		s := mustSign(t, 32, row(c.base), 16)
		wantSteps(t, c.base+" to "+c.target, s, row(c.target), c.want...)
		wantMake(t, c.base+" to "+c.target, s, row(c.target))
	}
}

func TestP18_4_Runs(t *testing.T) {
	xy := []byte("xy")
	for _, c := range []struct {
		base, target string
		want         []step
	}{
		{"ABCD", "ABCD", []step{cop(0, 4)}},
		{"ABCD", "BCD", []step{cop(1, 3)}},
		{"ABCD", "CDA", []step{cop(2, 2), cop(0, 1)}},           // it ends at the base's last block
		{"ABCD", "CDCD", []step{cop(2, 2), cop(2, 2)}},          // and does not go round
		{"ABCD", "CDxy", []step{cop(2, 2), lit(xy)}},            // bytes behind it
		{"ABCDxy", "CDxy", []step{cop(2, 2), lit(xy)}},          // also where the base has them: they are no block
		{"ABCDxy", "xyABCD", []step{lit(xy), cop(0, 4)}},        // bytes ahead
		{"ABCD", "AxyB", []step{cop(0, 1), lit(xy), cop(1, 1)}}, // the run is broken
		{"ABCD", "ABDC", []step{cop(0, 2), cop(3, 1), cop(2, 1)}},
		{"ABCD", "AC", []step{cop(0, 1), cop(2, 1)}},
	} {
		s := mustSign(t, 32, row(c.base), 16)
		wantSteps(t, c.base+" to "+c.target, s, row(c.target), c.want...)
		wantMake(t, c.base+" to "+c.target, s, row(c.target))
	}
}

// A window of which one byte lacks at the target's end is none.
func TestP18_4_CutAtTheEnd(t *testing.T) {
	s := mustSign(t, 32, row("AB"), 16)
	target := row("AB")
	for n := 16; n < 32; n++ {
		want := []step{cop(0, 1)}
		if n > 16 {
			want = append(want, lit(target[16:n]))
		}
		wantSteps(t, fmt.Sprint("the first ", n), s, target[:n], want...)
	}
}

func TestP18_4_ShorterThanABlock(t *testing.T) {
	base := row("ABC")
	for _, size := range []int{16, 17, 48} {
		s := mustSign(t, 32, base, size)
		for n := 1; n < size; n++ {
			wantSteps(t, fmt.Sprint(n, " bytes by ", size), s, base[:n], lit(base[:n]))
		}
		wantSteps(t, fmt.Sprint("none by ", size), s, nil)
		wantSteps(t, fmt.Sprint("a block by ", size), s, base[:size], cop(0, 1))
	}
}

// Windows that fit in the midst of others: the first place is taken, and what lies over it is not looked at.
func TestP18_4_InTheMidst(t *testing.T) {
	a, b := times(16, 'a'), times(16, 'b')
	mixed := slices.Concat(a[:8], b[:8])
	base := slices.Concat(a, b, mixed)
	s := mustSign(t, 32, base, 16)
	wantSteps(t, "the mixed one within both", s, slices.Concat(a, b), cop(0, 2))
	wantSteps(t, "a byte ahead", s, slices.Concat([]byte("x"), a, b), lit([]byte("x")), cop(0, 2))
	wantSteps(t, "a byte more", s, slices.Concat(a, a[:1], b), cop(0, 1), lit(a[:1]), cop(1, 1))
	wantSteps(t, "the mixed one alone", s, slices.Concat(a[:8], b[:9]), cop(2, 1), lit(b[:1]))
	wantSteps(t, "it stands ahead of the other", s, slices.Concat(a[:8], b), cop(2, 1), lit(b[:8]))
	for n := 16; n < 50; n++ {
		steps := []step{cop(0, 1)}
		for left := n - 16; left > 0; left -= 16 {
			if left >= 16 {
				steps = append(steps, cop(0, 1))
			} else {
				steps = append(steps, lit(a[:left]))
			}
		}
		wantSteps(t, fmt.Sprint(n, " alike bytes"), s, times(n, 'a'), steps...)
	}
	for at := range 40 {
		target := slices.Concat(times(at, 'x'), mixed, times(at, 'y'))
		wantMake(t, fmt.Sprint("at ", at), s, target)
	}
}

// A sum alone, or an id alone, is no fit; both together are, though the base's bytes are others.
func TestP18_4_FitsBySumAndID(t *testing.T) {
	a, b := row("A"), row("B")
	fit := api.Weak{Sum: weakByWords(a), ID: idByWords(32, a)}
	sumOnly := api.Weak{Sum: fit.Sum, ID: idByWords(32, b)}
	idOnly := api.Weak{Sum: fit.Sum ^ 1, ID: fit.ID}
	of := func(blocks ...api.Weak) api.Signature {
		return api.Signature{Width: 32, Size: 16, Length: 16 * len(blocks), Blocks: blocks}
	}
	wantSteps(t, "sum", of(sumOnly), a, lit(a))
	wantSteps(t, "id", of(idOnly), a, lit(a))
	wantSteps(t, "both", of(fit), a, cop(0, 1))
	wantSteps(t, "behind others", of(sumOnly, idOnly, sumOnly, fit, fit), a, cop(3, 1))
	wantSteps(t, "a run broken by the sum", of(fit, idOnly), row("AA"), cop(0, 1), cop(0, 1))
	wantSteps(t, "a run broken by the id", of(fit, sumOnly), row("AA"), cop(0, 1), cop(0, 1))
	wantSteps(t, "a run", of(fit, fit), row("AA"), cop(0, 2))
}

// Unlike rows of one sum and one id are one to Make.
func TestP18_4_NarrowWidths(t *testing.T) {
	for _, width := range []int{1, 2} {
		rows := clashing(t, width, 16, 3)
		s := mustSign(t, width, slices.Concat(rows[0], rows[1]), 16)
		wantSteps(t, "the least", s, rows[1], cop(0, 1))
		wantSteps(t, "another one", s, rows[2], cop(0, 1))
		wantSteps(t, "a run", s, slices.Concat(rows[2], rows[2], rows[2]), cop(0, 2), cop(0, 1))
		// One byte more of width is enough, for most rows.
		wantMake(t, "wider", mustSign(t, width+1, rows[0], 16), slices.Concat(rows[1], rows[2], rows[0]))
	}
	// One sum, unlike ids.
	one := times(16, 100)
	other := lent(one, 3, 5)
	wantSteps(t, "one sum", mustSign(t, 32, one, 16), other, lit(other))
	wantSteps(t, "one sum, the second", mustSign(t, 32, slices.Concat(one, other), 16), other, cop(1, 1))
}

func TestP18_4_MaxParts(t *testing.T) {
	s := mustSign(t, 32, row("A"), 16)
	half := api.MaxParts / 2
	for _, c := range []struct {
		what   string
		target []byte
		want   api.Errno
	}{
		{"both by turns", bytes.Repeat(row("Ax"), half), api.OK},
		{"and a COPY", append(bytes.Repeat(row("Ax"), half), row("A")...), api.ErrParts},
		{"and a COPY and a LITERAL", bytes.Repeat(row("Ax"), half+1), api.ErrParts},
		{"a LITERAL first", bytes.Repeat(row("xA"), half), api.OK},
		{"and a LITERAL", append(bytes.Repeat(row("xA"), half), 'x'), api.ErrParts},
		{"COPYs alone", bytes.Repeat(row("A"), api.MaxParts), api.OK},
		{"one more", bytes.Repeat(row("A"), api.MaxParts+1), api.ErrParts},
		{"and a byte", append(bytes.Repeat(row("A"), api.MaxParts), 'x'), api.ErrParts},
		{"one fewer, and a byte", append(bytes.Repeat(row("A"), api.MaxParts-1), 'x'), api.OK},
		{"as many as there can be", bytes.Repeat(row("A"), api.MaxFile/16), api.ErrParts},
	} {
		if got := wantMake(t, c.what, s, c.target); got != c.want {
			t.Errorf("%s: %d, want %d", c.what, got, c.want)
		}
		if c.want != api.OK {
			wantNoMake(t, c.what, s, c.target, c.want)
			continue
		}
		data := mustMake(t, s, c.target)
		if d, is := readByWords(data); !is || len(d.steps) != api.MaxParts {
			t.Errorf("%s: %d instructions", c.what, len(d.steps))
		}
		wantMade(t, c.what, row("A"), data, c.target)
	}
}

// literalOf is how many bytes a target must have that nothing fits, if its delta is to have so many.
func literalOf(width, total int) int {
	n := total - 2*width
	return n - len(slices.Concat([]byte{68}, num(width), num(16), num(0), num(n), num(1), []byte{2}, num(n), word(0)))
}

func TestP18_4_MaxFile(t *testing.T) {
	data := letters(noise(), api.MaxFile+1, 256)
	for _, width := range []int{1, 32} {
		s := mustSign(t, width, nil, 16)
		n := literalOf(width, api.MaxFile)
		if made := mustMake(t, s, data[:n]); len(made) != api.MaxFile {
			t.Errorf("%d bytes: a delta of %d", n, len(made))
		}
		wantMade(t, "the longest delta", nil, mustMake(t, s, data[:n]), data[:n])
		wantNoMake(t, "a byte more", s, data[:n+1], api.ErrLong)
		wantNoMake(t, "the longest target", s, data[:api.MaxFile], api.ErrLong)
		wantNoMake(t, "a longer target", s, data, api.ErrLong)
	}
	// The longest target is taken where its delta is short.
	s := mustSign(t, 32, data[:api.MaxFile], 64)
	wantSteps(t, "itself", s, data[:api.MaxFile], cop(0, 2048))
	wantMade(t, "itself", data[:api.MaxFile], mustMake(t, s, data[:api.MaxFile]), data[:api.MaxFile])
	wantNoMake(t, "itself and a byte", s, data, api.ErrLong)
}

func TestP18_4_TheFirstErrorIsTold(t *testing.T) {
	s := mustSign(t, 32, row("A"), 16)
	long := bytes.Repeat(row("A"), api.MaxFile/16+1)
	wantNoMake(t, "too long, too many", s, long, api.ErrLong)
	s.Blocks = nil
	wantNoMake(t, "no signature, too long, too many", s, long, api.ErrDelta)
	wantNoMake(t, "no signature, too many", s, long[:api.MaxFile], api.ErrDelta)
}

// patched is a target out of pieces of a base: whole blocks, pieces from anywhere, and bytes of its own.
func patched(t testing.TB, k int) (api.Signature, []byte, []byte) {
	t.Helper()
	r := noise()
	for range k {
		r.Uint64()
	}
	size := []int{16, 16, 17, 20, 32, 64}[r.IntN(6)]
	base := letters(r, r.IntN(14*size), 1+r.IntN(4))
	var target []byte
	for range r.IntN(8) {
		switch r.IntN(4) {
		case 0:
			target = append(target, letters(r, r.IntN(2*size), 1+r.IntN(4))...)
		case 1:
			from := r.IntN(len(base) + 1)
			target = append(target, base[from:from+r.IntN(len(base)-from+1)]...)
		default:
			if blocks := len(base) / size; blocks > 0 {
				from := r.IntN(blocks)
				target = append(target, base[from*size:(from+1+r.IntN(blocks-from))*size]...)
			}
		}
	}
	width := []int{1, 1, 2, 32}[r.IntN(4)]
	return mustSign(t, width, base, size), base, target
}

func TestP18_4_Drawn(t *testing.T) {
	kinds := map[int]int{}
	for k := range 1500 {
		s, _, target := patched(t, k)
		wantMake(t, fmt.Sprint("drawn ", k), s, target)
		for _, step := range stepsByWords(s, target) {
			kinds[step.kind]++
		}
	}
	if kinds[copyKind] < 1000 || kinds[literalKind] < 1000 {
		t.Errorf("drawn: %v", kinds)
	}
}

// P18.9, also of bases with blocks that are alike, or that clash.
func TestP18_9_OfTheBaseItself(t *testing.T) {
	r := noise()
	bases := [][]byte{nil, row("x"), row("A"), row("Ax"), row("AAAA"), row("ABABABx"), row("ABCDxyz")}
	bases = append(bases, slices.Concat(clashing(t, 1, 16, 4)...))
	for range 200 {
		bases = append(bases, letters(r, r.IntN(600), 1+r.IntN(3)))
	}
	for _, base := range bases {
		for _, size := range []int{16, 17, 100} {
			for _, width := range []int{1, 32} {
				var want []step
				blocks := len(base) / size
				if blocks > 0 {
					want = append(want, cop(0, blocks))
				}
				if len(base) > blocks*size {
					want = append(want, lit(base[blocks*size:]))
				}
				s := mustSign(t, width, base, size)
				wantSteps(t, fmt.Sprint(len(base), " bytes by ", size), s, base, want...)
				wantMade(t, fmt.Sprint(len(base), " bytes by ", size), base, mustMake(t, s, base), base)
			}
		}
	}
}

// wantTight asks for P18.10 of what Make wrote, without making it a second time.
func wantTight(t testing.TB, what string, s api.Signature, target []byte) {
	t.Helper()
	data, errno := delta.Make(s, target)
	if errno != api.OK {
		return
	}
	d, is := readByWords(data)
	if !is {
		t.Errorf("%s: Make wrote no delta: %s", what, shownBytes(data))
		return
	}
	length := 0
	for k, one := range d.steps {
		if one.kind == copyKind {
			length += one.count * s.Size
			continue
		}
		for at := range len(one.text) {
			if leastByWords(s, one.text, at) >= 0 {
				t.Errorf("%s: a window at %d in the LITERAL %d fits", what, at, k)
			}
		}
		if k > 0 && d.steps[k-1].kind == literalKind {
			t.Errorf("%s: LITERALs side by side: %d", what, k)
		}
		length += len(one.text)
	}
	if length != len(target) {
		t.Errorf("%s: %d bytes of %d", what, length, len(target))
	}
}

func TestP18_10_Drawn(t *testing.T) {
	for k := range 600 {
		s, _, target := patched(t, 5000+k)
		wantTight(t, fmt.Sprint("drawn ", k), s, target)
	}
	s := mustSign(t, 32, row("ABx"), 16)
	for _, text := range []string{"", "x", "A", "xA", "Ax", "xAyBz", "ABAB", "xxBAyy"} {
		wantTight(t, text, s, row(text))
	}
}
