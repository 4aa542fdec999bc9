package delta_test

import (
	"bytes"
	"fmt"
	"math"
	"math/rand/v2"
	"slices"
	"strings"
	"testing"

	"freight/api"
	"freight/delta"
)

// noise is the same row of numbers in every run.
func noise() *rand.Rand { return rand.New(rand.NewPCG(18, 2048)) }

// letters are n bytes of so many kinds.
func letters(r *rand.Rand, n, kinds int) []byte {
	data := make([]byte, n)
	for i := range data {
		data[i] = byte(r.IntN(kinds))
	}
	return data
}

func times(n int, b byte) []byte { return bytes.Repeat([]byte{b}, n) }

// row is a text in which a great letter stands for a row of 16 bytes, and any other one for itself.
func row(text string) []byte {
	var out []byte
	for _, b := range []byte(text) {
		if b < 'A' || b > 'Z' {
			out = append(out, b)
			continue
		}
		for k := range 16 {
			out = append(out, b*3+byte(k*k))
		}
	}
	return out
}

// roomy is a copy of data with spare room that is full of one byte.
func roomy(data []byte, spare int, fill byte) []byte {
	whole := append(bytes.Clone(data), times(spare, fill)...)
	return whole[:len(data)]
}

// widths are those at the edges, and some between them.
func widths() []int { return []int{1, 2, 8, 31, 32} }

// noWidths are not from 1 to 32.
func noWidths() []int {
	return []int{math.MinInt, -32, -1, 0, 33, 34, 64, 256, api.MaxNumber, math.MaxInt}
}

// sizes are those at the edges, and some between them.
func sizes() []int { return []int{16, 17, 64, 100, 4095, 4096} }

// noSizes are not from 16 to 4096.
func noSizes() []int {
	return []int{math.MinInt, -16, -1, 0, 1, 8, 15, 4097, 8192, api.MaxNumber, math.MaxInt}
}

// lent is a row of the same length, and of the same moving sum, with other bytes: what is taken from two bytes is
// lent to the one between them, whose place weighs as much as both of theirs. The byte between must not be too great.
func lent(row []byte, at, by int) []byte {
	other := bytes.Clone(row)
	other[at] -= byte(by)
	other[at+1] += byte(2 * by)
	other[at+2] -= byte(by)
	return other
}

// clashing are n unlike rows of so many bytes that have one moving sum and one id of that width.
func clashing(t testing.TB, width, size, n int) [][]byte {
	t.Helper()
	byID := map[api.ID][][]byte{}
	r := noise()
	for range 100000 {
		row := times(size, 100)
		for range 6 {
			row = lent(row, r.IntN(size-2), 1)
		}
		id := idByWords(width, row)
		if !slices.ContainsFunc(byID[id], func(other []byte) bool { return bytes.Equal(row, other) }) {
			byID[id] = append(byID[id], row)
		}
		if len(byID[id]) == n {
			return byID[id]
		}
	}
	t.Fatalf("no %d rows of %d bytes that clash by the width %d", n, size, width)
	return nil
}

func likeSignature(a, b api.Signature) bool {
	return a.Width == b.Width && a.Size == b.Size && a.Length == b.Length && a.Base == b.Base && slices.Equal(a.Blocks, b.Blocks)
}

func copyOf(s api.Signature) api.Signature {
	s.Blocks = slices.Clone(s.Blocks)
	return s
}

// shownSignature is a signature that is not too long to be told.
func shownSignature(s api.Signature) string {
	return fmt.Sprintf("{%d %d %d %x, %d blocks}", s.Width, s.Size, s.Length, s.Base[:4], len(s.Blocks))
}

// shownBytes are bytes that are not too many to be told.
func shownBytes(data []byte) string {
	if len(data) > 100 {
		return fmt.Sprintf("%d bytes: % x ..", len(data), data[:100])
	}
	return fmt.Sprintf("%d bytes: % x", len(data), data)
}

func mustSign(t testing.TB, width int, base []byte, size int) api.Signature {
	t.Helper()
	s, errno := delta.Sign(width, base, size)
	if errno != api.OK {
		t.Fatalf("Sign(%d, %d bytes, %d): %d", width, len(base), size, errno)
	}
	return s
}

func mustEncode(t testing.TB, s api.Signature) []byte {
	t.Helper()
	data, errno := delta.Encode(s)
	if errno != api.OK {
		t.Fatalf("Encode(%s): %d", shownSignature(s), errno)
	}
	return data
}

func mustMake(t testing.TB, s api.Signature, target []byte) []byte {
	t.Helper()
	data, errno := delta.Make(s, target)
	if errno != api.OK {
		t.Fatalf("Make(%s, %d bytes): %d", shownSignature(s), len(target), errno)
	}
	return data
}

// wantSign asks for what P18.1 says, whatever it is, and tells the error.
func wantSign(t testing.TB, what string, width int, base []byte, size int) api.Errno {
	t.Helper()
	got, errno := delta.Sign(width, base, size)
	want, wanted := signByWords(width, base, size)
	if errno != wanted || !likeSignature(got, want) {
		t.Errorf("%s: Sign(%d, %d bytes, %d): %s, %d, want %s, %d", what, width, len(base), size, shownSignature(got), errno, shownSignature(want), wanted)
	}
	return wanted
}

// wantNoSign asks for the error, and by W3 for nothing beside it.
func wantNoSign(t testing.TB, width int, base []byte, size int, want api.Errno) {
	t.Helper()
	got, errno := delta.Sign(width, base, size)
	if errno != want || !likeSignature(got, api.Signature{}) {
		t.Errorf("Sign(%d, %d bytes, %d): %s, %d, want error %d", width, len(base), size, shownSignature(got), errno, want)
	}
}

// wantNoSignature asks Encode and Make for ErrDelta, and by W3 for nothing beside it.
func wantNoSignature(t testing.TB, what string, s api.Signature) {
	t.Helper()
	if data, errno := delta.Encode(s); errno != api.ErrDelta || len(data) != 0 {
		t.Errorf("%s: Encode(%s): %s, %d", what, shownSignature(s), shownBytes(data), errno)
	}
	for _, target := range [][]byte{nil, row("ABx"), times(api.MaxFile+1, 7)} {
		if data, errno := delta.Make(s, target); errno != api.ErrDelta || len(data) != 0 {
			t.Errorf("%s: Make(%s, %d bytes): %s, %d", what, shownSignature(s), len(target), shownBytes(data), errno)
		}
	}
}

// wantEncode asks for what P18.2 says, whatever it is, and tells the error.
func wantEncode(t testing.TB, what string, s api.Signature) api.Errno {
	t.Helper()
	want, wanted := encodeByWords(s)
	data, errno := delta.Encode(s)
	if errno != wanted || !bytes.Equal(data, want) {
		t.Errorf("%s: Encode(%s): %s, %d, want %s, %d", what, shownSignature(s), shownBytes(data), errno, shownBytes(want), wanted)
	}
	return wanted
}

// wantDecode asks for what P18.3 says, whatever it is, and tells the error.
func wantDecode(t testing.TB, what string, data []byte) api.Errno {
	t.Helper()
	want, wanted := decodeByWords(data)
	s, errno := delta.Decode(data)
	if errno != wanted || !likeSignature(s, want) {
		t.Errorf("%s: Decode(%s): %s, %d, want %s, %d", what, shownBytes(data), shownSignature(s), errno, shownSignature(want), wanted)
	}
	return wanted
}

// wantNoDecode asks for ErrDelta, and by W3 for nothing beside it.
func wantNoDecode(t testing.TB, what string, data []byte) {
	t.Helper()
	if s, errno := delta.Decode(data); errno != api.ErrDelta || !likeSignature(s, api.Signature{}) {
		t.Errorf("%s: Decode(%s): %s, %d", what, shownBytes(data), shownSignature(s), errno)
	}
}

// wantMake asks for what P18.4 says, whatever it is, and tells the error.
func wantMake(t testing.TB, what string, s api.Signature, target []byte) api.Errno {
	t.Helper()
	want, wanted := makeByWords(s, target)
	data, errno := delta.Make(s, target)
	if errno != wanted || !bytes.Equal(data, want) {
		t.Errorf("%s: Make(%s, %d bytes): %s, %d, want %s, %d", what, shownSignature(s), len(target), shownBytes(data), errno, shownBytes(want), wanted)
	}
	return wanted
}

// wantNoMake asks for the error, and by W3 for nothing beside it.
func wantNoMake(t testing.TB, what string, s api.Signature, target []byte, want api.Errno) {
	t.Helper()
	if data, errno := delta.Make(s, target); errno != want || len(data) != 0 {
		t.Errorf("%s: Make(%s, %d bytes): %s, %d, want error %d", what, shownSignature(s), len(target), shownBytes(data), errno, want)
	}
}

// wantSteps asks Make for the delta of just these instructions, told as the chapter tells them, with bytes in place of
// the letters.
func wantSteps(t testing.TB, what string, s api.Signature, target []byte, want ...step) {
	t.Helper()
	data, errno := delta.Make(s, target)
	if errno != api.OK {
		t.Errorf("%s: Make: %d", what, errno)
		return
	}
	d, is := readByWords(data)
	if !is || toldSteps(d.steps) != toldSteps(want) {
		t.Errorf("%s: Make is %s, want %s", what, toldSteps(d.steps), toldSteps(want))
	}
	wantHead(t, what, d, s, target)
}

// wantHead asks a delta for what stands ahead of its instructions.
func wantHead(t testing.TB, what string, d draft, s api.Signature, target []byte) {
	t.Helper()
	if d.width != s.Width || d.size != s.Size || d.base != s.Length || d.baseID != s.Base {
		t.Errorf("%s: the delta's base is %d, %d, %d, %x, of %s", what, d.width, d.size, d.base, d.baseID[:4], shownSignature(s))
	}
	if d.target != len(target) || d.targetID != idByWords(s.Width, target) {
		t.Errorf("%s: the delta's target is %d bytes, %x", what, d.target, d.targetID[:4])
	}
}

func toldSteps(steps []step) string {
	var out []string
	for _, s := range steps {
		if s.kind == copyKind {
			out = append(out, fmt.Sprint("C ", s.first, " ", s.count))
		} else {
			out = append(out, fmt.Sprintf("L %x", s.text))
		}
	}
	return strings.Join(out, ", ")
}

// wantApply asks for what P18.6 says, whatever it is, and tells the error.
func wantApply(t testing.TB, what string, base, data []byte) api.Errno {
	t.Helper()
	want, wanted := applyByWords(base, data)
	got, errno := delta.Apply(base, data)
	if errno != wanted || !bytes.Equal(got, want) {
		t.Errorf("%s: Apply(%d bytes, %s): %s, %d, want %s, %d", what, len(base), shownBytes(data), shownBytes(got), errno, shownBytes(want), wanted)
	}
	return wanted
}

func wantMade(t testing.TB, what string, base, data, want []byte) {
	t.Helper()
	if got, errno := delta.Apply(base, data); errno != api.OK || !bytes.Equal(got, want) {
		t.Errorf("%s: Apply(%d bytes, %s): %s, %d, want %s", what, len(base), shownBytes(data), shownBytes(got), errno, shownBytes(want))
	}
}

// wantNoApply asks for the error, and by W3 for nothing beside it.
func wantNoApply(t testing.TB, what string, base, data []byte, want api.Errno) {
	t.Helper()
	if got, errno := delta.Apply(base, data); errno != want || len(got) != 0 {
		t.Errorf("%s: Apply(%d bytes, %s): %s, %d, want error %d", what, len(base), shownBytes(data), shownBytes(got), errno, want)
	}
}
