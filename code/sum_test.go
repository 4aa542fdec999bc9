package code_test

import (
	"bytes"
	"testing"

	"freight/code"
)

// sumByBits is P1.1 word for word.
func sumByBits(data []byte) int {
	register := 4294967295
	for _, b := range data {
		register ^= int(b)
		for range 8 {
			if register%2 == 1 {
				register = register/2 ^ 3988292384
			} else {
				register /= 2
			}
		}
	}
	return 4294967295 - register
}

func TestP1_1_SumExamples(t *testing.T) {
	for _, c := range []struct {
		data string
		want int
	}{
		{"", 0},
		{"\x07", 1281784366},
		{"pallet", 1634575015},
		{"crate 7 of 31", 133812381},
	} {
		if got := code.Sum([]byte(c.data)); got != c.want {
			t.Errorf("Sum(%q) = %d, want %d", c.data, got, c.want)
		}
	}
	if got := code.Sum(nil); got != 0 {
		t.Errorf("Sum(nil) = %d, want 0", got)
	}
}

func TestP1_1_SumOfEachByte(t *testing.T) {
	for b := range 256 {
		one := []byte{byte(b)}
		if got, want := code.Sum(one), sumByBits(one); got != want {
			t.Errorf("Sum(%x) = %d, want %d", one, got, want)
		}
	}
}

func TestP1_1_SumOfLongerRows(t *testing.T) {
	r := noise()
	rows := [][]byte{make([]byte, 4096), bytes.Repeat([]byte{255}, 4096), noiseBytes(r, 131072)}
	for n := range 300 {
		rows = append(rows, noiseBytes(r, n))
	}
	for _, row := range rows {
		got := code.Sum(row)
		if want := sumByBits(row); got != want {
			t.Errorf("Sum of %d bytes = %d, want %d", len(row), got, want)
		}
		if got < 0 || got > 4294967295 {
			t.Errorf("Sum of %d bytes = %d, outside of 32 bits", len(row), got)
		}
	}
}

// turned is a copy of row in which the bits of pattern are turned, from the
// bit at on; of each byte the lowest bit is the first one.
func turned(row []byte, at int, pattern uint32) []byte {
	other := bytes.Clone(row)
	for i := range 32 {
		if pattern>>i&1 == 1 {
			other[(at+i)/8] ^= 1 << ((at + i) % 8)
		}
	}
	return other
}

func wantUnlikeSums(t *testing.T, row []byte, at int, pattern uint32) {
	t.Helper()
	if code.Sum(row) == code.Sum(turned(row, at, pattern)) {
		t.Errorf("% x: turned at the bit %d by %#x it has the same sum", row, at, pattern)
	}
}

func TestP1_10_FewBitsTurned(t *testing.T) {
	r := noise()
	for n := 1; n <= 12; n++ {
		row := noiseBytes(r, n)
		for at := range 8 * n {
			for pattern := uint32(1); pattern < 256 && at+7 < 8*n; pattern++ {
				wantUnlikeSums(t, row, at, pattern)
			}
			wantUnlikeSums(t, row, at, 1)
		}
	}
}

func TestP1_10_32BitsSideBySide(t *testing.T) {
	r := noise()
	for _, n := range []int{4, 5, 8, 13, 64, 300} {
		row := noiseBytes(r, n)
		for at := range 8*n - 31 {
			// The greatest pattern, the divisor itself, both ends alone, any.
			for _, pattern := range []uint32{4294967295, 3988292384, 1<<31 | 1, r.Uint32() | 1} {
				wantUnlikeSums(t, row, at, pattern)
			}
		}
	}
}
