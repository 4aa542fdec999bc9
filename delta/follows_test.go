package delta_test

import (
	"bytes"
	"fmt"
	"math/rand/v2"
	"slices"
	"testing"

	"freight/api"
	"freight/delta"
)

// drawnSignature is one that may be, and that most often no base has.
func drawnSignature(r *rand.Rand) api.Signature {
	s := api.Signature{Width: 1 + r.IntN(32), Size: 16 + r.IntN(1<<r.IntN(12))}
	s.Length = r.IntN(min(api.MaxFile, 40*s.Size))
	drawID := func() api.ID {
		var id api.ID
		copy(id[:s.Width], letters(r, s.Width, 256))
		return id
	}
	s.Base = drawID()
	for range s.Length / s.Size {
		s.Blocks = append(s.Blocks, api.Weak{Sum: int(r.Uint32()), ID: drawID()})
	}
	return s
}

func TestP18_7_ThereAndBack(t *testing.T) {
	r := noise()
	for range 1000 {
		s := drawnSignature(r)
		if wantEncode(t, "drawn", s) != api.OK {
			t.Fatalf("%s: may not be", shownSignature(s))
		}
		back, errno := delta.Decode(mustEncode(t, s))
		if errno != api.OK || !likeSignature(back, s) {
			t.Errorf("%s: back %s, %d", shownSignature(s), shownSignature(back), errno)
		}
	}
}

// wantWrittenAgain asks Encode for the bytes that Decode took, and tells whether it took them.
func wantWrittenAgain(t testing.TB, what string, data []byte) bool {
	t.Helper()
	s, errno := delta.Decode(data)
	if errno != api.OK {
		return false
	}
	if again, errno := delta.Encode(s); errno != api.OK || !bytes.Equal(again, data) {
		t.Errorf("%s: %s was taken, and is written as %s, %d", what, shownBytes(data), shownBytes(again), errno)
	}
	return true
}

// turnedAnew is a form of which some bytes ahead of the sum are turned, and the sum is theirs.
func turnedAnew(r *rand.Rand, data []byte) []byte {
	body := bytes.Clone(data[:len(data)-4])
	for range 1 + r.IntN(3) {
		body[r.IntN(min(len(body), 1+r.IntN(len(body))))] = byte(r.IntN(256))
	}
	return sealed(body)
}

func TestP18_7_WhatIsTakenIsWrittenAgain(t *testing.T) {
	r := noise()
	taken, refused := 0, 0
	for range 4000 {
		data := turnedAnew(r, mustEncode(t, drawnSignature(r)))
		wantDecode(t, "turned", data)
		if wantWrittenAgain(t, "turned", data) {
			taken++
		} else {
			refused++
		}
	}
	if taken < 500 || refused < 500 {
		t.Errorf("%d taken, %d refused", taken, refused)
	}
}

func TestP18_7_SignsAnswersMayBe(t *testing.T) {
	r := noise()
	for range 500 {
		width, size := 1+r.IntN(32), 16+r.IntN(1<<r.IntN(12))
		s, errno := delta.Sign(width, letters(r, r.IntN(1<<r.IntN(15)), 1+r.IntN(256)), size)
		if errno != api.OK {
			continue
		}
		if !mayBeByWords(s) {
			t.Errorf("%s: may not be", shownSignature(s))
		}
		mustEncode(t, s)
		mustMake(t, s, nil)
	}
	// The greatest sum that a block can have, and the longest form.
	full := times(2048*64, 255)
	for _, size := range []int{64, 4096} {
		s := mustSign(t, 32, full, size)
		if data := mustEncode(t, s); len(data) > api.MaxFile || !wantWrittenAgain(t, "the longest", data) {
			t.Errorf("by %d: %d bytes", size, len(data))
		}
	}
}

// clashByWords tells whether a block of base and a window of target are unlike, and have one sum and one id.
func clashByWords(s api.Signature, base, target []byte) bool {
	for at := 0; at+s.Size <= len(target); at++ {
		window := target[at : at+s.Size]
		sum := weakByWords(window)
		for k, b := range s.Blocks {
			if b.Sum == sum && fitsByWords(s, target, at, k) && !bytes.Equal(base[k*s.Size:(k+1)*s.Size], window) {
				return true
			}
		}
	}
	return false
}

// outcomes of there and back.
const (
	cameBack = iota
	refusedSo
	anotherRow
	notMade
)

// wantBack asks for P18.8, and tells how it came.
func wantBack(t testing.TB, what string, width int, base []byte, size int, target []byte) int {
	t.Helper()
	s, errno := delta.Sign(width, base, size)
	if errno != api.OK {
		return notMade
	}
	data, errno := delta.Make(s, target)
	if errno != api.OK {
		return notMade
	}
	got, errno := delta.Apply(base, data)
	if errno == api.OK && bytes.Equal(got, target) {
		return cameBack
	}
	if !clashByWords(s, base, target) {
		t.Errorf("%s: %d bytes, error %d, and no clash", what, len(got), errno)
	}
	if errno == api.ErrTarget && len(got) == 0 {
		return refusedSo
	}
	if errno != api.OK || len(got) != len(target) || idByWords(width, got) != idByWords(width, target) {
		t.Errorf("%s: %d bytes, error %d", what, len(got), errno)
	}
	return anotherRow
}

func TestP18_8_ThereAndBack(t *testing.T) {
	r := noise()
	for k := range 1500 {
		s, base, target := patched(t, 9000+k)
		if got := wantBack(t, fmt.Sprint("patched ", k), s.Width, base, s.Size, target); s.Width == 32 && got != cameBack {
			t.Errorf("patched %d: %d", k, got)
		}
	}
	for k := range 300 {
		base, target := letters(r, r.IntN(1<<r.IntN(14)), 256), letters(r, r.IntN(1<<r.IntN(14)), 256)
		cut := r.IntN(len(base) + 1)
		target = slices.Concat(target, base[cut:], base[:cut])
		if got := wantBack(t, fmt.Sprint("drawn ", k), 32, base, 16+r.IntN(1<<r.IntN(12)), target); got == refusedSo || got == anotherRow {
			t.Errorf("drawn %d: %d", k, got)
		}
	}
}

// Bases and targets out of rows that clash: all three ends come up.
func TestP18_8_WithClashes(t *testing.T) {
	r := noise()
	met := map[int]int{}
	for _, width := range []int{1, 2} {
		rows := clashing(t, width, 16, 3)
		rows = append(rows, row("A"), row("B"), []byte("x"), []byte("y"))
		draw := func() []byte {
			var out []byte
			for range 1 + r.IntN(5) {
				out = append(out, rows[r.IntN(len(rows))]...)
			}
			return out
		}
		for k := range 1500 {
			met[wantBack(t, fmt.Sprint("width ", width, ", ", k), width, draw(), 16, draw())]++
		}
	}
	if met[cameBack] < 50 || met[refusedSo] < 50 || met[anotherRow] < 50 || met[notMade] != 0 {
		t.Errorf("%v", met)
	}
}

// The three ends, each by itself.
func TestP18_8_TheThreeEnds(t *testing.T) {
	rows := clashing(t, 1, 16, 2)
	if got := wantBack(t, "itself", 1, rows[0], 16, rows[0]); got != cameBack {
		t.Errorf("itself: %d", got)
	}
	if got := wantBack(t, "the other", 1, rows[0], 16, rows[1]); got != anotherRow {
		t.Errorf("the other: %d", got)
	}
	ends := map[int]int{}
	for b := range 256 {
		ends[wantBack(t, "and a byte", 1, rows[0], 16, append(bytes.Clone(rows[1]), byte(b)))]++
	}
	if ends[refusedSo] < 200 {
		t.Errorf("and a byte: %v", ends)
	}
}

// Every byte, turned into each other one.
func TestP18_11_OneByteTurned(t *testing.T) {
	for _, width := range []int{1, 8} {
		base, _, d := stock(width)
		for what, data := range map[string][]byte{"a delta": d.bytes(), "the delta of nothing": draftOf(width, 16, base, nil).bytes()} {
			for at := range data {
				turned := bytes.Clone(data)
				for by := 1; by < 256; by++ {
					turned[at] = data[at] ^ byte(by)
					wantNoApply(t, fmt.Sprint(what, ", byte ", at), base, turned, api.ErrDelta)
				}
			}
		}
		for _, s := range []api.Signature{mustSign(t, width, base, 16), mustSign(t, width, nil, 4096)} {
			data := mustEncode(t, s)
			for at := range data {
				turned := bytes.Clone(data)
				for by := 1; by < 256; by++ {
					turned[at] = data[at] ^ byte(by)
					wantNoDecode(t, fmt.Sprint("a signature, byte ", at), turned)
				}
			}
		}
	}
}

// Of long ones some bytes.
func TestP18_11_OneByteOfManyTurned(t *testing.T) {
	r := noise()
	base := letters(r, 40000, 256)
	signed := mustSign(t, 32, base, 20)
	signature, made := mustEncode(t, signed), mustMake(t, signed, slices.Concat(base[30000:], letters(r, 9000, 256), base[:777]))
	for range 300 {
		for _, data := range [][]byte{signature, made} {
			turned := bytes.Clone(data)
			turned[r.IntN(len(turned))] ^= byte(1 + r.IntN(255))
			wantNoDecode(t, "a long signature", turned)
			wantNoApply(t, "a long delta", base, turned, api.ErrDelta)
		}
	}
}

// wantLengthAndID asks for the second half of P18.11.
func wantLengthAndID(t testing.TB, what string, base, data []byte) {
	t.Helper()
	got, errno := delta.Apply(base, data)
	if errno != api.OK {
		return
	}
	if d, is := readByWords(data); !is || len(got) != d.target || idByWords(d.width, got) != d.targetID {
		t.Errorf("%s: %d bytes of %s", what, len(got), shownBytes(data))
	}
}

// Deltas of which some bytes are turned, their sums made anew: whatever comes of it is what the words say.
func TestP18_11_TurnedAndSummedAnew(t *testing.T) {
	r := noise()
	met := map[api.Errno]int{}
	for range 12000 {
		base, _, d := stock(1)
		data := turnedAnew(r, d.bytes())
		met[wantApply(t, "turned", base, data)]++
		wantLengthAndID(t, "turned", base, data)
	}
	for _, errno := range []api.Errno{api.OK, api.ErrDelta, api.ErrBase, api.ErrTarget} {
		if met[errno] < 10 {
			t.Errorf("turned: %v", met)
		}
	}
}

func TestP18_11_AnyBytes(t *testing.T) {
	r := noise()
	for range 3000 {
		base := letters(r, r.IntN(40), 256)
		data := letters(r, r.IntN(60), 1+r.IntN(256))
		if len(data) > 4 && r.IntN(2) == 0 {
			data[0] = []byte{68, 83}[r.IntN(2)]
			data = sealed(data)
		}
		wantApply(t, "any bytes", base, data)
		wantDecode(t, "any bytes", data)
		wantLengthAndID(t, "any bytes", base, data)
	}
}

// FuzzAnyBytes takes any bytes as a delta and as a signature, and the same with sums that are right.
func FuzzAnyBytes(f *testing.F) {
	for _, width := range []int{1, 8, 32} {
		base, _, d := stock(width)
		f.Add(base, d.bytes())
		f.Add(base, sealed(signaturePieces(blank(width, 16, 50))...))
	}
	for _, data := range wrongDrafts() {
		f.Add(row("ABCx"), data)
	}
	f.Fuzz(func(t *testing.T, base, data []byte) {
		forms := [][]byte{data}
		if len(data) >= 4 {
			forms = append(forms, sealed(data[:len(data)-4]))
		}
		for _, form := range forms {
			wantApply(t, "any bytes", base, form)
			wantDecode(t, "any bytes", form)
			wantLengthAndID(t, "any bytes", base, form)
			wantWrittenAgain(t, "any bytes", form)
		}
	})
}

// FuzzThereAndBack signs any base, and makes any target of it.
func FuzzThereAndBack(f *testing.F) {
	f.Add(1, row("ABAx"), 16, row("xBAAB"))
	f.Add(32, row("AAB"), 17, row("AAB"))
	f.Add(2, []byte{}, 4096, row("A"))
	f.Fuzz(func(t *testing.T, width int, base []byte, size int, target []byte) {
		if wantSign(t, "any base", width, base, size) != api.OK {
			return
		}
		for _, of := range [][]byte{target, base, slices.Concat(target, base, target)} {
			s := mustSign(t, width, base, size)
			wantMake(t, "any target", s, of)
			wantTight(t, "any target", s, of)
			wantBack(t, "any target", width, base, size, of)
		}
	})
}
