package digest_test

import (
	"bytes"
	"crypto/sha256"
	"slices"
	"testing"

	"freight/digest"
)

// wantUntouched tells whether a piece and its spare room are as they were.
func wantUntouched(t *testing.T, what string, piece, before []byte) {
	t.Helper()
	if !bytes.Equal(piece[:cap(piece)], before) {
		t.Errorf("%s: what was handed in is % x, was % x", what, piece[:cap(piece)], before)
	}
}

func TestW6_PiecesAreUntouched(t *testing.T) {
	r := noise()
	for _, n := range []int{0, 1, 55, 56, 63, 64, 65, 119, 120, 128, 300} {
		piece := roomy(noiseBytes(r, n), 200, 0xa5)
		before := bytes.Clone(piece[:cap(piece)])
		digest.Full(piece, piece)
		wantUntouched(t, "Full", piece, before)
		digest.Of(7, piece)
		wantUntouched(t, "Of", piece, before)
		var h digest.Hash
		h.Write(piece)
		h.Sum()
		h.Write(piece)
		h.Sum()
		wantUntouched(t, "Write, Sum", piece, before)
	}
}

func TestW6_ListOfPiecesIsUntouched(t *testing.T) {
	spare := []byte("spare")
	whole := [][]byte{[]byte("pal"), nil, []byte("let"), spare, nil}
	before := slices.Clone(whole)
	digest.Full(whole[:3]...)
	digest.Of(32, whole[:3]...)
	for i := range whole {
		if !bytes.Equal(whole[i], before[i]) || (whole[i] == nil) != (before[i] == nil) {
			t.Errorf("piece %d of the list is % x, was % x", i, whole[i], before[i])
		}
	}
}

func TestW6_PiecesAreNotKept(t *testing.T) {
	r := noise()
	for n := range 140 {
		piece := noiseBytes(r, n)
		want := sha256.Sum256(piece)
		var h digest.Hash
		h.Write(piece)
		clear(piece)
		wantSum(t, "written over behind Write", h.Sum(), want)
	}
}

// One buffer, filled anew for each piece.
func TestW6_OneBufferForAll(t *testing.T) {
	r := noise()
	var h digest.Hash
	var all []byte
	buffer := make([]byte, 50)
	for range 40 {
		n := r.IntN(len(buffer) + 1)
		copy(buffer, noiseBytes(r, len(buffer)))
		h.Write(buffer[:n])
		all = append(all, buffer[:n]...)
	}
	wantSum(t, "one buffer", h.Sum(), sha256.Sum256(all))
}

func TestW6_AnswersAreAlone(t *testing.T) {
	var h digest.Hash
	h.Write([]byte("pallet"))
	first := h.Sum()
	want := first
	second := h.Sum()
	clear(second[:])
	h.Write([]byte("s"))
	wantSum(t, "an earlier answer", first, want)
	wantSum(t, "behind an answer written over", h.Sum(), sha256.Sum256([]byte("pallets")))
}
