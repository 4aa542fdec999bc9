package code_test

import (
	"bytes"
	"math"
	"strings"
	"testing"

	"freight/api"
	"freight/code"
)

func TestP1_2_NumberForms(t *testing.T) {
	for _, c := range []struct {
		v    int
		want string
	}{
		{0, "00"},
		{1, "01"},
		{127, "7f"},
		{128, "80 01"},
		{255, "ff 01"},
		{256, "80 02"},
		{300, "ac 02"},
		{16383, "ff 7f"},
		{16384, "80 80 01"},
		{2097151, "ff ff 7f"},
		{2097152, "80 80 80 01"},
		{268435455, "ff ff ff 7f"},
		{268435456, "80 80 80 80 01"},
		{api.MaxNumber - 1, "fe ff ff ff 07"},
		{api.MaxNumber, "ff ff ff ff 07"},
	} {
		wantData(t, written(putNumber(c.v)), unhex(t, c.want))
	}
}

func TestP1_2_NumbersOneBehindTheOther(t *testing.T) {
	w := written(putNumber(0), putNumber(127), putNumber(128), putNumber(300), putNumber(api.MaxNumber))
	wantData(t, w, unhex(t, "00 7f 80 01 ac 02 ff ff ff ff 07"))
}

func TestP1_2_NumberRefused(t *testing.T) {
	for _, v := range []int{-1, -128, math.MinInt32, math.MinInt, api.MaxNumber + 1, 4294967295, math.MaxInt} {
		wantRefused(t, written(putNumber(v)))
	}
}

func TestP1_2_FixedForms(t *testing.T) {
	for _, c := range []struct {
		v, k int
		want string
	}{
		{0, 1, "00"}, {7, 1, "07"}, {255, 1, "ff"},
		{0, 2, "00 00"}, {258, 2, "01 02"}, {65535, 2, "ff ff"},
		{0, 3, "00 00 00"}, {66051, 3, "01 02 03"}, {16777215, 3, "ff ff ff"},
		{0, 4, "00 00 00 00"}, {16909060, 4, "01 02 03 04"}, {4294967295, 4, "ff ff ff ff"},
		{2147483648, 4, "80 00 00 00"}, {255, 4, "00 00 00 ff"},
	} {
		wantData(t, written(putFixed(c.v, c.k)), unhex(t, c.want))
	}
	wantData(t, written(putFixed(258, 2), putFixed(4294967295, 4)), unhex(t, "01 02 ff ff ff ff"))
}

func TestP1_2_FixedRefused(t *testing.T) {
	for _, c := range []struct{ v, k int }{
		{256, 1}, {65536, 2}, {16777216, 3}, {4294967296, 4},
		{-1, 1}, {-1, 2}, {-1, 3}, {-1, 4}, {math.MinInt, 4},
		{math.MaxInt, 1}, {math.MaxInt, 4},
		{0, 0}, {1, 0}, {0, -1}, {0, -8}, {0, math.MinInt},
		{0, 5}, {1, 5}, {0, 8}, {0, 64}, {0, math.MaxInt},
	} {
		wantRefused(t, written(putFixed(c.v, c.k)))
	}
}

func TestP1_2_RawAndText(t *testing.T) {
	wantData(t, written(putText("crate")), append([]byte{5}, "crate"...))
	wantData(t, written(putRaw("crate")), []byte("crate"))
	wantData(t, written(putRaw("")), nil)
	wantData(t, written(putText("")), []byte{0})
	for _, c := range []struct {
		n     int
		ahead string
	}{
		{127, "7f"}, {128, "80 01"}, {300, "ac 02"}, {16384, "80 80 01"},
	} {
		data := strings.Repeat("\xff", c.n)
		wantData(t, written(putText(data)), append(unhex(t, c.ahead), data...))
		wantData(t, written(putRaw(data)), []byte(data))
	}
	w := new(code.Writer)
	w.Raw(nil)
	w.Text(nil)
	wantData(t, w, []byte{0})
}

func TestP1_2_NothingIsWrittenBehindARefusedCall(t *testing.T) {
	refused := []put{putNumber(-1), putNumber(api.MaxNumber + 1), putFixed(256, 1), putFixed(0, 0), putFixed(-1, 4)}
	others := []put{putNumber(1), putFixed(1, 1), putRaw("x"), putText("x"), putNumber(-1), putFixed(1, 5)}
	wantRefused(t, written(putFixed(256, 1), putNumber(1)))
	for _, no := range refused {
		w := written(putNumber(1), putText("crate"), no)
		wantRefused(t, w)
		for _, p := range others {
			p(w)
			wantRefused(t, w)
			wantRefused(t, written(no, p))
			wantRefused(t, written(putRaw("crate"), no, p))
		}
	}
}

func TestP1_3_DataOfNothing(t *testing.T) {
	wantData(t, new(code.Writer), nil)
	var w code.Writer
	wantData(t, &w, nil)
}

func TestP1_3_DataOnTheWay(t *testing.T) {
	w := new(code.Writer)
	var want []byte
	for _, c := range []struct {
		put  put
		more string
	}{
		{putNumber(300), "ac 02"},
		{putFixed(258, 2), "01 02"},
		{putRaw("ab"), "61 62"},
		{putText("c"), "01 63"},
		{putRaw(""), ""},
		{putNumber(0), "00"},
	} {
		c.put(w)
		want = append(want, unhex(t, c.more)...)
		wantData(t, w, want)
		wantData(t, w, want)
	}
	w.Number(-1)
	wantRefused(t, w)
	wantRefused(t, w)
}

func TestP1_3_ManySmallAndGreatPieces(t *testing.T) {
	r := noise()
	for range 20 {
		w := new(code.Writer)
		var want []byte
		for range 200 {
			data := noiseBytes(r, r.IntN(200))
			w.Raw(data)
			w.Fixed(7, 1)
			want = append(append(want, data...), 7)
			wantData(t, w, want)
		}
	}
	great := noiseBytes(r, 1<<20)
	w := new(code.Writer)
	w.Raw(great)
	w.Raw(great)
	wantData(t, w, append(bytes.Clone(great), great...))
}

func TestP1_4_NilWriter(t *testing.T) {
	for _, p := range []put{
		putNumber(1), putNumber(-1), putFixed(1, 1), putFixed(1, 9), putRaw("x"), putRaw(""), putText("x"), putText(""),
	} {
		var w *code.Writer
		wantRefused(t, w)
		p(w)
		wantRefused(t, w)
	}
}
