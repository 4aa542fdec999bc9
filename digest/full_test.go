package digest_test

import (
	"bytes"
	"crypto/sha256"
	"encoding/hex"
	"fmt"
	"math"
	"testing"

	"freight/api"
	"freight/digest"
)

func TestP2_1_Examples(t *testing.T) {
	wantFirst(t, "pallet", digest.Full([]byte("pallet")), "b8902a0baa867051")
	wantFirst(t, "pal, let", digest.Full([]byte("pal"), []byte("let")), "b8902a0baa867051")
	wantFirst(t, "crate 7 of 31", digest.Full([]byte("crate 7 of 31")), "7149cac5c9a28fae")
	wantFirst(t, "1000 bytes", digest.Full(sevens(1000)), "89f4ff56a25dd1db")
}

func TestP2_1_KnownDigests(t *testing.T) {
	cases := []struct {
		data []byte
		want string
	}{
		{nil, "e3b0c44298fc1c149afbf4c8996fb92427ae41e4649b934ca495991b7852b855"},
		{[]byte("abc"), "ba7816bf8f01cfea414140de5dae2223b00361a396177a9cb410ff61f20015ad"},
		{
			[]byte("abcdbcdecdefdefgefghfghighijhijkijkljklmklmnlmnomnopnopq"),
			"248d6a61d20638b8e5c026930c3e6039a33ce45964ff2167f6ecedd419db06c1",
		},
		{
			bytes.Repeat([]byte("a"), 1000000),
			"cdc76e5c9914fb9281a1c7e284d73e67f1809a48a497200e046d39ccc7112cd0",
		},
	}
	for _, c := range cases {
		got := digest.Full(c.data)
		if told := hex.EncodeToString(got[:]); told != c.want {
			t.Errorf("Full of %d bytes: %s, want %s", len(c.data), told, c.want)
		}
	}
}

func TestP2_1_NoPieces(t *testing.T) {
	want := sha256.Sum256(nil)
	wantSum(t, "no pieces", digest.Full(), want)
	wantSum(t, "a nil list", digest.Full(nil...), want)
	wantSum(t, "an empty list", digest.Full([][]byte{}...), want)
	wantSum(t, "a nil piece", digest.Full(nil), want)
	wantSum(t, "pieces without bytes", digest.Full(nil, []byte{}, nil), want)
}

// The row's end is of another length at each of these.
func TestP2_1_EveryLength(t *testing.T) {
	data := noiseBytes(noise(), 520)
	for n := range data {
		wantSum(t, fmt.Sprint(n, " bytes"), digest.Full(data[:n]), sha256.Sum256(data[:n]))
	}
}

func TestP2_1_LongMessages(t *testing.T) {
	r := noise()
	for _, n := range []int{8191, 8192, 8193, 65536 + 55, 65536 + 56, 1<<21 + 7} {
		data := noiseBytes(r, n)
		wantSum(t, fmt.Sprint(n, " bytes"), digest.Full(data), sha256.Sum256(data))
	}
}

// 8 * n no longer goes into 32 bits.
func TestP2_1_LengthAbove32Bits(t *testing.T) {
	if testing.Short() {
		t.Skip("half a GiB")
	}
	piece := make([]byte, 1<<22)
	pieces := make([][]byte, 1<<29/len(piece))
	h := sha256.New()
	for i := range pieces {
		pieces[i] = piece
		h.Write(piece)
	}
	wantSum(t, "half a GiB", digest.Full(pieces...), [32]byte(h.Sum(nil)))
}

func TestP2_1_BytesOfAllKinds(t *testing.T) {
	for b := range 256 {
		data := bytes.Repeat([]byte{byte(b)}, 64+b%9)
		wantSum(t, fmt.Sprintf("%d times % x", len(data), b), digest.Full(data), sha256.Sum256(data))
	}
}

func TestP2_2_Examples(t *testing.T) {
	want := api.ID{0xb8, 0x90}
	if got := digest.Of(2, []byte("pallet")); got != want {
		t.Errorf("Of(2, pallet): %x", got)
	}
	for _, width := range []int{0, 33} {
		if got := digest.Of(width, []byte("pallet")); got != (api.ID{}) {
			t.Errorf("Of(%d, pallet): %x", width, got)
		}
	}
}

func TestP2_2_EveryWidth(t *testing.T) {
	data := []byte("crate 7 of 31")
	full := sha256.Sum256(data)
	for width := 1; width <= api.MaxWidth; width++ {
		var want api.ID
		for i := range width {
			want[i] = full[i]
		}
		if got := digest.Of(width, data); got != want {
			t.Errorf("Of(%d, ..): %x, want %x", width, got, want)
		}
	}
}

func TestP2_2_NoWidth(t *testing.T) {
	widths := []int{0, -1, -2, -31, -32, -255, math.MinInt, math.MinInt32, 33, 34, 64, 256, 257, 288, 1 << 32, 1<<32 + 1, math.MaxInt32, math.MaxInt}
	for _, width := range widths {
		for _, pieces := range [][][]byte{nil, {nil}, {[]byte("pal"), []byte("let")}} {
			if got := digest.Of(width, pieces...); got != (api.ID{}) {
				t.Errorf("Of(%d, ..): %x, want the zero id", width, got)
			}
		}
	}
}

func TestP2_2_NoPieces(t *testing.T) {
	want := api.ID(sha256.Sum256(nil))
	if digest.Of(32) != want || digest.Of(32, nil) != want || digest.Of(32, nil, []byte{}) != want {
		t.Error("Of(32) is not that of no bytes")
	}
	if got := digest.Of(1); got != (api.ID{0xe3}) {
		t.Errorf("Of(1): %x", got)
	}
}
