package roll_test

import (
	"bytes"
	"iter"
	"math/rand/v2"
	"slices"
	"testing"

	"freight/api"
	"freight/roll"
)

// noise is the same row of numbers in every run.
func noise() *rand.Rand { return rand.New(rand.NewPCG(3, 65536)) }

func noiseBytes(r *rand.Rand, n int) []byte {
	data := make([]byte, n)
	for i := range data {
		data[i] = byte(r.Uint32())
	}
	return data
}

// high are bytes near 255, so that the parts of a sum go round soon.
func high(r *rand.Rand, n int) []byte {
	data := make([]byte, n)
	for i := range data {
		data[i] = byte(255 - r.IntN(3))
	}
	return data
}

// byWords is the sum as P3.1 says it: whole numbers first, their remainders at the end.
func byWords(window []byte) int {
	n, a, b := len(window), 0, 0
	for i, x := range window {
		a += int(x)
		b += (n - i) * int(x)
	}
	return a%65536 + 65536*(b%65536)
}

// found is what an iterator tells of one window.
type found struct{ at, sum int }

func allOf(windows iter.Seq2[int, int]) []found {
	var all []found
	for at, sum := range windows {
		all = append(all, found{at, sum})
	}
	return all
}

// byWordsAll are the windows of data, each one's sum made afresh.
func byWordsAll(data []byte, size int) []found {
	var all []found
	if size < 1 {
		return nil
	}
	for at := 0; size <= len(data) && at <= len(data)-size; at++ {
		all = append(all, found{at, byWords(data[at : at+size])})
	}
	return all
}

// roomy is a copy of data with spare room that is full of one byte.
func roomy(data []byte, spare int, fill byte) []byte {
	whole := append(bytes.Clone(data), bytes.Repeat([]byte{fill}, spare)...)
	return whole[:len(data)]
}

func mustNew(t *testing.T, window []byte) *roll.Roll {
	t.Helper()
	r, errno := roll.New(window)
	if errno != api.OK || r == nil {
		t.Fatalf("New of %d bytes: %v, %d", len(window), r, errno)
	}
	return r
}

func wantSum(t *testing.T, what string, got, want int) {
	t.Helper()
	if got != want {
		t.Errorf("%s: the sum is %d, want %d", what, got, want)
	}
}

func wantOut(t *testing.T, what string, got, want byte) {
	t.Helper()
	if got != want {
		t.Errorf("%s: %d went out, want %d", what, got, want)
	}
}

func wantWindows(t *testing.T, what string, got, want []found) {
	t.Helper()
	if !slices.Equal(got, want) {
		t.Errorf("%s: %d windows %v, want %d: %v", what, len(got), got, len(want), want)
	}
}
