package digest_test

import (
	"bytes"
	"cmp"
	"crypto/sha256"
	"fmt"
	"strings"
	"testing"

	"freight/api"
	"freight/digest"
)

func wantCuts(t *testing.T, what string, data []byte, pieces ...[]byte) {
	t.Helper()
	want := sha256.Sum256(data)
	wantSum(t, what+", Full", digest.Full(pieces...), want)
	wantSum(t, what+", Of", digest.Of(32, pieces...), want)
	wantSum(t, what+", Write", byWrite(pieces...), want)
}

func TestP2_6_CutOnceAtEveryPlace(t *testing.T) {
	data := noiseBytes(noise(), 200)
	for n := range len(data) + 1 {
		wantCuts(t, fmt.Sprint("cut at ", n), data, data[:n], data[n:])
		wantCuts(t, fmt.Sprint("cut at ", n, ", nothing between"), data, nil, data[:n], []byte{}, nil, data[n:], nil)
	}
}

func TestP2_6_CutByOneLength(t *testing.T) {
	data := noiseBytes(noise(), 500)
	for size := 1; size <= 130; size++ {
		var pieces [][]byte
		for rest := data; len(rest) > 0; {
			n := min(size, len(rest))
			pieces, rest = append(pieces, rest[:n]), rest[n:]
		}
		wantCuts(t, fmt.Sprint("cut by ", size), data, pieces...)
	}
}

func TestP2_6_CutAnywhere(t *testing.T) {
	r := noise()
	for range 300 {
		data := noiseBytes(r, r.IntN(700))
		wantCuts(t, fmt.Sprint(len(data), " bytes"), data, cut(r, data)...)
	}
}

func TestP2_6_AtEveryWidth(t *testing.T) {
	r := noise()
	data := noiseBytes(r, 150)
	for width := -1; width <= 34; width++ {
		if digest.Of(width, cut(r, data)...) != digest.Of(width, data) {
			t.Errorf("width %d: the cut tells", width)
		}
	}
}

func TestP2_7_TwoWidths(t *testing.T) {
	data := noiseBytes(noise(), 77)
	for w := 1; w <= api.MaxWidth; w++ {
		for v := 1; v <= api.MaxWidth; v++ {
			one, other := digest.Of(w, data), digest.Of(v, data)
			if n := min(w, v); !bytes.Equal(one[:n], other[:n]) {
				t.Errorf("widths %d, %d: %x, %x", w, v, one, other)
			}
		}
	}
}

func TestP2_7_ThereAndBack(t *testing.T) {
	r := noise()
	for range 2000 {
		id := noiseID(r)
		text := digest.Hex(id)
		wantParsed(t, text, id)
		if back, _ := digest.Parse(text); digest.Hex(back) != text {
			t.Errorf("Hex(Parse(%s)): %s", text, digest.Hex(back))
		}
	}
}

// Of any text that is taken, Hex is that text: so there is one text of an id.
func TestP2_7_OneText(t *testing.T) {
	r := noise()
	const signs = "0123456789abcdefABCDEFgG/:`@ x"
	taken := 0
	for range 20000 {
		of := signs[:16]
		if r.IntN(2) == 0 {
			of = signs
		}
		var b strings.Builder
		for range 64 {
			b.WriteByte(signs[r.IntN(16)])
		}
		text := []byte(b.String())
		text[r.IntN(64)] = of[r.IntN(len(of))]
		id, errno := digest.Parse(string(text))
		if errno != api.OK {
			continue
		}
		taken++
		if digest.Hex(id) != string(text) {
			t.Fatalf("Hex of Parse(%q): %s", text, digest.Hex(id))
		}
	}
	if taken < 10000 {
		t.Errorf("only %d texts were taken", taken)
	}
}

// ids are close to one another, so that each place tells for some pair.
func ids() []api.ID {
	r := noise()
	all := []api.ID{{}, api.ID(bytes.Repeat([]byte{255}, 32)), {0, 255}, {1}}
	for place := range 32 {
		id := noiseID(r)
		all = append(all, id, near(id, place))
	}
	return all
}

func TestP2_8_Exchanged(t *testing.T) {
	for _, a := range ids() {
		for _, b := range ids() {
			there, back := digest.Compare(a, b), digest.Compare(b, a)
			if there != -back || there < -1 || there > 1 || (there == 0) != (a == b) {
				t.Errorf("Compare(%x, %x): %d; exchanged: %d", a, b, there, back)
			}
		}
	}
}

func TestP2_8_GoesOn(t *testing.T) {
	for _, a := range ids() {
		for _, b := range ids() {
			for _, c := range ids()[:40] {
				if digest.Compare(a, b) <= 0 && digest.Compare(b, c) <= 0 && digest.Compare(a, c) > 0 {
					t.Fatalf("%x, %x, %x", a, b, c)
				}
			}
		}
	}
}

func TestP2_8_OrderOfHex(t *testing.T) {
	for _, a := range ids() {
		for _, b := range ids() {
			want := cmp.Compare(digest.Hex(a), digest.Hex(b))
			if got := digest.Compare(a, b); got != want {
				t.Errorf("Compare(%x, %x): %d; of their texts: %d", a, b, got, want)
			}
		}
	}
}

func FuzzAnyCut(f *testing.F) {
	f.Add([]byte("pallet"), 3, 2)
	f.Add(sevens(130), 64, 16)
	f.Fuzz(func(t *testing.T, data []byte, place, width int) {
		n := min(max(place, 0), len(data))
		wantCuts(t, "cut", data, data[:n], data[n:])
		id := digest.Of(width, data)
		wantParsed(t, digest.Hex(id), id)
	})
}

func FuzzParse(f *testing.F) {
	f.Add("")
	f.Add(strings.Repeat("0", 64))
	f.Add(strings.Repeat("aF", 32))
	f.Fuzz(func(t *testing.T, text string) {
		id, errno := digest.Parse(text)
		switch {
		case errno == api.OK && digest.Hex(id) != text:
			t.Errorf("Hex of Parse(%q): %s", text, digest.Hex(id))
		case errno != api.OK && (errno != api.ErrHex || id != (api.ID{})):
			t.Errorf("Parse(%q): %x, %d", text, id, errno)
		}
	})
}
