package digest_test

import (
	"bytes"
	"encoding/hex"
	"math/rand/v2"
	"testing"

	"freight/api"
	"freight/digest"
)

// noise is the same row of numbers in every run.
func noise() *rand.Rand { return rand.New(rand.NewPCG(2, 31)) }

func noiseBytes(r *rand.Rand, n int) []byte {
	data := make([]byte, n)
	for i := range data {
		data[i] = byte(r.Uint32())
	}
	return data
}

func noiseID(r *rand.Rand) api.ID { return api.ID(noiseBytes(r, 32)) }

// near is another id that differs from id at one place alone.
func near(id api.ID, place int) api.ID {
	id[place]++
	return id
}

// sevens is the document's row of n bytes: the k-th is the remainder of 7 * k by 256.
func sevens(n int) []byte {
	data := make([]byte, n)
	for k := range data {
		data[k] = byte(7 * k)
	}
	return data
}

// roomy is a copy of data with spare room that is full of one byte.
func roomy(data []byte, spare int, fill byte) []byte {
	whole := append(bytes.Clone(data), bytes.Repeat([]byte{fill}, spare)...)
	return whole[:len(data)]
}

// cut is data in noise's pieces, some of them without bytes, nil ones too.
func cut(r *rand.Rand, data []byte) [][]byte {
	var pieces [][]byte
	for len(data) > 0 {
		n := r.IntN(min(len(data), 90) + 1)
		pieces = append(pieces, bytes.Clone(data[:n]))
		data = data[n:]
		if r.IntN(4) == 0 {
			pieces = append(pieces, nil, []byte{})
		}
	}
	return pieces
}

func byWrite(pieces ...[]byte) [32]byte {
	var h digest.Hash
	for _, piece := range pieces {
		h.Write(piece)
	}
	return h.Sum()
}

func wantSum(t *testing.T, what string, got, want [32]byte) {
	t.Helper()
	if got != want {
		t.Errorf("%s: %x, want %x", what, got, want)
	}
}

func wantFirst(t *testing.T, what string, got [32]byte, want string) {
	t.Helper()
	if told := hex.EncodeToString(got[:8]); told != want {
		t.Errorf("%s: begins with %s, want %s", what, told, want)
	}
}
