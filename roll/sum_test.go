package roll_test

import (
	"bytes"
	"fmt"
	"testing"

	"freight/api"
	"freight/roll"
)

func TestP3_1_Examples(t *testing.T) {
	wantSum(t, "none", roll.Sum([]byte{}), 0)
	wantSum(t, "nil", roll.Sum(nil), 0)
	wantSum(t, "a", roll.Sum([]byte("a")), 6357089)
	wantSum(t, "abc", roll.Sum([]byte("abc")), 38404390)
	wantSum(t, "300 bytes 255", roll.Sum(bytes.Repeat([]byte{255}, 300)), 2913086164)
}

func TestP3_1_OneByte(t *testing.T) {
	for x := range 256 {
		wantSum(t, fmt.Sprint("byte ", x), roll.Sum([]byte{byte(x)}), x+65536*x)
	}
}

func TestP3_1_EachPlaceHasItsWeight(t *testing.T) {
	for n := 1; n <= 40; n++ {
		for i := range n {
			window := make([]byte, n)
			window[i] = 3
			wantSum(t, fmt.Sprint("place ", i, " of ", n), roll.Sum(window), 3+65536*3*(n-i))
		}
	}
}

func row(parts ...[]byte) []byte { return bytes.Join(parts, nil) }

func times(n int, x byte) []byte { return bytes.Repeat([]byte{x}, n) }

func TestP3_1_GoesRound(t *testing.T) {
	for _, c := range []struct {
		what   string
		window []byte
		a, b   int
	}{
		{"the first part as high as it goes", times(257, 255), 65535, 255 * 257 * 258 / 2 % 65536},
		{"the first part comes to 0", row(times(257, 255), times(1, 1)), 0, (255*257*258/2 + 65535 + 1) % 65536},
		{"the first part comes to 1", row(times(257, 255), times(1, 2)), 1, (255*257*258/2 + 65535 + 2) % 65536},
		{"the second part as high as it goes", row(times(1, 255), times(256, 0)), 255, 65535},
		{"the second part alone comes to 0", row(times(1, 255), times(255, 0), times(1, 1)), 256, 0},
		{"the second part alone comes to 1", row(times(1, 255), times(255, 0), times(1, 2)), 257, 1},
		{"both come to 0", times(131072, 1), 0, 0},
		{"both as high as they go", row(times(131071, 1), times(1, 0)), 65535, 65535},
		{"both go round many times", times(100000, 255), 255 * 100000 % 65536, 255 * 100000 * 100001 / 2 % 65536},
	} {
		wantSum(t, c.what, roll.Sum(c.window), c.a+65536*c.b)
		wantSum(t, c.what+", by the words", byWords(c.window), c.a+65536*c.b)
	}
}

func TestP3_1_Bounds(t *testing.T) {
	if got := roll.Sum(row(times(131071, 1), times(1, 0))); got != 4294967295 {
		t.Errorf("the greatest sum: %d", got)
	}
	r := noise()
	for range 500 {
		if got := roll.Sum(high(r, r.IntN(2000))); got < 0 || got > 4294967295 {
			t.Errorf("a sum of %d", got)
		}
	}
}

func TestP3_1_AnyNumberOfBytes(t *testing.T) {
	r := noise()
	for n := range 600 {
		data := noiseBytes(r, n)
		wantSum(t, fmt.Sprint(n, " bytes"), roll.Sum(data), byWords(data))
	}
	for _, n := range []int{api.MaxBlock - 1, api.MaxBlock, api.MaxBlock + 1, 65535, 65536, 65537, api.MaxFile, 1 << 20} {
		for _, data := range [][]byte{noiseBytes(r, n), high(r, n), make([]byte, n)} {
			wantSum(t, fmt.Sprint(n, " bytes"), roll.Sum(data), byWords(data))
		}
	}
}
