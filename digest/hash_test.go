package digest_test

import (
	"bytes"
	"crypto/sha256"
	"fmt"
	"sync"
	"testing"

	"freight/digest"
)

func TestP2_3_Example(t *testing.T) {
	var h digest.Hash
	h.Write([]byte("pal"))
	g := h
	h.Write([]byte("let"))
	wantSum(t, "h", h.Sum(), sha256.Sum256([]byte("pallet")))
	wantSum(t, "g", g.Sum(), sha256.Sum256([]byte("pal")))
}

func TestP2_3_ZeroHash(t *testing.T) {
	want := sha256.Sum256(nil)
	var h digest.Hash
	wantSum(t, "zero", h.Sum(), want)
	wantSum(t, "asked again", h.Sum(), want)
	h.Write(nil)
	h.Write([]byte{})
	wantSum(t, "behind pieces without bytes", h.Sum(), want)
	h.Write([]byte("x"))
	wantSum(t, "behind a byte", h.Sum(), sha256.Sum256([]byte("x")))
	wantSum(t, "made by new", new(digest.Hash).Sum(), want)
	h = digest.Hash{}
	wantSum(t, "made zero again", h.Sum(), want)
}

func TestP2_3_NilHash(t *testing.T) {
	var h *digest.Hash
	want := sha256.Sum256(nil)
	wantSum(t, "nil", h.Sum(), want)
	for _, piece := range [][]byte{nil, {}, []byte("x"), sevens(200)} {
		h.Write(piece)
		wantSum(t, "nil, behind Write", h.Sum(), want)
	}
	if h != nil {
		t.Error("a nil Hash is none any more")
	}
}

func TestP2_3_SumOnTheWay(t *testing.T) {
	data := noiseBytes(noise(), 300)
	for _, step := range []int{1, 2, 7, 55, 56, 63, 64, 65, 128, 129} {
		var h digest.Hash
		for from := 0; from < len(data); from += step {
			to := min(from+step, len(data))
			h.Write(data[from:to])
			want := sha256.Sum256(data[:to])
			wantSum(t, fmt.Sprintf("by %d, behind %d", step, to), h.Sum(), want)
			wantSum(t, fmt.Sprintf("by %d, behind %d, once more", step, to), h.Sum(), want)
		}
	}
}

// Sum takes the row's end, which may turn one or two blocks: the Hash itself must not.
func TestP2_3_SumChangesNothing(t *testing.T) {
	data := noiseBytes(noise(), 260)
	for n := range 131 {
		var asked, unasked digest.Hash
		asked.Write(data[:n])
		unasked.Write(data[:n])
		for range 3 {
			asked.Sum()
		}
		asked.Write(data[n:])
		unasked.Write(data[n:])
		if asked.Sum() != unasked.Sum() {
			t.Errorf("Sum behind %d bytes changes what comes", n)
		}
	}
}

func TestP2_3_CopiedAtEveryPlace(t *testing.T) {
	r := noise()
	for n := range 131 {
		ahead := noiseBytes(r, n)
		one, other := noiseBytes(r, r.IntN(150)), noiseBytes(r, r.IntN(150))
		var h digest.Hash
		h.Write(ahead)
		g := h
		h.Write(one)
		wantSum(t, fmt.Sprint("the copy alone behind ", n), g.Sum(), sha256.Sum256(ahead))
		g.Write(other)
		wantSum(t, fmt.Sprint("the first behind ", n), h.Sum(), sha256.Sum256(append(bytes.Clone(ahead), one...)))
		wantSum(t, fmt.Sprint("the copy behind ", n), g.Sum(), sha256.Sum256(append(bytes.Clone(ahead), other...)))
	}
}

func TestP2_3_CopiesTakeInTurns(t *testing.T) {
	r := noise()
	hashes := make([]digest.Hash, 5)
	want := make([][]byte, len(hashes))
	for range 2000 {
		k := r.IntN(len(hashes))
		if from := r.IntN(len(hashes)); r.IntN(20) == 0 {
			hashes[k], want[k] = hashes[from], bytes.Clone(want[from])
		}
		piece := noiseBytes(r, r.IntN(30))
		hashes[k].Write(piece)
		want[k] = append(want[k], piece...)
		for i := range hashes {
			if hashes[i].Sum() != sha256.Sum256(want[i]) {
				t.Fatalf("hash %d, behind %d bytes, is that of others", i, len(want[i]))
			}
		}
	}
}

func TestP2_3_AskedByManyAtOnce(t *testing.T) {
	var h digest.Hash
	h.Write(sevens(100))
	want := sha256.Sum256(sevens(100))
	var all sync.WaitGroup
	for range 8 {
		all.Go(func() {
			for range 50 {
				if h.Sum() != want {
					t.Error("Sum asked by many at once")
				}
			}
		})
	}
	all.Wait()
}
