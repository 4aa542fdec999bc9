package digest_test

import (
	"encoding/hex"
	"strings"
	"testing"

	"freight/api"
	"freight/digest"
)

func wantParsed(t *testing.T, text string, want api.ID) {
	t.Helper()
	if got, errno := digest.Parse(text); errno != api.OK || got != want {
		t.Errorf("Parse(%q): %x, %d; want %x, OK", text, got, errno, want)
	}
}

func wantErrHex(t *testing.T, text string) {
	t.Helper()
	if got, errno := digest.Parse(text); errno != api.ErrHex || got != (api.ID{}) {
		t.Errorf("Parse(%q): %x, %d; want the zero id, ErrHex", text, got, errno)
	}
}

func TestP2_4_Examples(t *testing.T) {
	if got := digest.Hex(digest.Of(2, []byte("pallet"))); got != "b890"+strings.Repeat("0", 60) {
		t.Errorf("Hex(Of(2, pallet)): %s", got)
	}
	wantErrHex(t, "")
	wantParsed(t, strings.Repeat("0", 64), api.ID{})
	wantErrHex(t, strings.Repeat("0", 63))
	wantErrHex(t, strings.Repeat("A", 64))
}

func TestP2_4_EveryByteAtEveryPlace(t *testing.T) {
	for place := range 32 {
		for b := range 256 {
			var id api.ID
			id[place] = byte(b)
			text := digest.Hex(id)
			if want := hex.EncodeToString(id[:]); text != want {
				t.Fatalf("Hex(%x): %s", id, text)
			}
			wantParsed(t, text, id)
		}
	}
}

func TestP2_4_Lengths(t *testing.T) {
	digits := strings.Repeat("0123456789abcdef", 20)
	for n := range 140 {
		if n != 64 {
			wantErrHex(t, digits[:n])
		}
	}
	wantErrHex(t, digits)
	wantErrHex(t, digits[:64]+"\n")
	wantErrHex(t, " "+digits[:64])
	wantErrHex(t, strings.Repeat("0", 1<<20))
}

func TestP2_4_EverySignAtEveryPlace(t *testing.T) {
	good := strings.Repeat("7c", 32)
	for place := range good {
		for sign := range 256 {
			text := good[:place] + string([]byte{byte(sign)}) + good[place+1:]
			if strings.IndexByte("0123456789abcdef", byte(sign)) < 0 {
				wantErrHex(t, text)
				continue
			}
			want, err := hex.DecodeString(text)
			if err != nil {
				t.Fatal(err)
			}
			wantParsed(t, text, api.ID(want))
		}
	}
}

func TestP2_4_OtherTexts(t *testing.T) {
	zeros := strings.Repeat("0", 64)
	texts := []string{
		"0x" + zeros[:62],
		"+" + zeros[:63],
		"-" + zeros[:63],
		zeros[:31] + "_" + zeros[:32],
		zeros[:62] + "é",                   // 64 bytes, 63 signs
		strings.Repeat("é", 32),            // 64 bytes
		strings.Repeat("é", 64),            // 64 signs
		strings.Repeat("\u0660", 64),       // digits of another script
		strings.Repeat("\uff10", 21) + "0", // the same, 64 bytes
		strings.Repeat("\xff", 64),
		strings.Repeat("\x00", 64),
		strings.Repeat("aB", 32),
		strings.ToUpper(digest.Hex(api.ID(digest.Full([]byte("pallet"))))),
	}
	for _, text := range texts {
		wantErrHex(t, text)
	}
}

func TestP2_5_Examples(t *testing.T) {
	if got := digest.Compare(api.ID{1, 0}, api.ID{0, 255}); got != 1 {
		t.Errorf("Compare(1 0 .., 0 255 ..): %d", got)
	}
	if got := digest.Compare(api.ID{}, api.ID{}); got != 0 {
		t.Errorf("Compare(zero, zero): %d", got)
	}
}

func TestP2_5_OnePlace(t *testing.T) {
	r := noise()
	for place := range 32 {
		a := noiseID(r)
		b := a
		a[place], b[place] = byte(r.IntN(255)), 255
		wantOrder(t, a, b, -1)
		a[place], b[place] = 0, byte(1+r.IntN(255))
		wantOrder(t, a, b, -1)
		a[place], b[place] = 127, 128
		wantOrder(t, a, b, -1)
		b[place] = 127
		wantOrder(t, a, b, 0)
	}
}

// The first place at which two differ tells, whatever all behind it say.
func TestP2_5_SeveralPlaces(t *testing.T) {
	r := noise()
	for place := range 32 {
		a := noiseID(r)
		b := a
		a[place], b[place] = 4, 5
		for k := place + 1; k < 32; k++ {
			a[k], b[k] = 255, 0
		}
		wantOrder(t, a, b, -1)
	}
}

func TestP2_5_EveryPairOfBytes(t *testing.T) {
	for x := range 256 {
		for y := range 256 {
			want := 0
			if x < y {
				want = -1
			} else if x > y {
				want = 1
			}
			if got := digest.Compare(api.ID{31: byte(x)}, api.ID{31: byte(y)}); got != want {
				t.Fatalf("last bytes %d, %d: %d", x, y, got)
			}
			if got := digest.Compare(api.ID{byte(x)}, api.ID{byte(y)}); got != want {
				t.Fatalf("first bytes %d, %d: %d", x, y, got)
			}
		}
	}
}

func wantOrder(t *testing.T, a, b api.ID, want int) {
	t.Helper()
	if got := digest.Compare(a, b); got != want {
		t.Errorf("Compare(%x, %x): %d, want %d", a, b, got, want)
	}
	if got := digest.Compare(b, a); got != -want {
		t.Errorf("Compare(%x, %x): %d, want %d", b, a, got, -want)
	}
}
