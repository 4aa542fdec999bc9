package press_test

import (
	"bytes"
	"fmt"
	"testing"

	"freight/api"
	"freight/press"
)

func wantBack(t *testing.T, what string, data []byte) {
	t.Helper()
	wantUnpacked(t, what, mustPack(t, data), data)
}

func TestP4_3_Back(t *testing.T) {
	r := noise()
	wantBack(t, "nil", nil)
	wantBack(t, "no bytes", []byte{})
	for i := range 600 {
		n := i
		if i%20 == 0 {
			n = r.IntN(api.MaxBlock + 1)
		}
		wantBack(t, "few kinds", letters(r, n, 1+i%7))
		wantBack(t, "noise", letters(r, n, 256))
		wantBack(t, "runs", runs(r, n))
		wantBack(t, "alike", times(n, byte(i)))
	}
	for _, n := range []int{api.MaxBlock - 1, api.MaxBlock} {
		wantBack(t, "few kinds", letters(r, n, 2))
		wantBack(t, "noise", letters(r, n, 256))
		wantBack(t, "runs", runs(r, n))
		wantBack(t, "alike", times(n, 0))
		wantBack(t, "unlike", unlike(r, n))
	}
}

func TestP4_3_BackOfAllShortRows(t *testing.T) {
	for kinds, most := range map[int]int{1: 200, 2: 13, 3: 8, 5: 5} {
		for n := range most + 1 {
			eachRow(n, kinds, func(data []byte) { wantBack(t, "a short row", data) })
		}
	}
}

// Each number but data's own is refused.
func TestP4_3_NoOtherNumber(t *testing.T) {
	r := noise()
	for _, data := range [][]byte{nil, []byte("a"), []byte("ab"), times(7, 'a'), times(api.MaxBlock, 'a'), letters(r, 1000, 2), letters(r, 1000, 256), runs(r, 3000), letters(r, api.MaxBlock, 4)} {
		packed := mustPack(t, data)
		for n := range api.MaxBlock + 1 {
			if n != len(data) {
				wantRefused(t, fmt.Sprint(len(data), " bytes"), packed, n, api.ErrPressLong)
			}
		}
		wantRefused(t, "below", packed, -1, api.ErrArg)
		wantRefused(t, "above", packed, api.MaxBlock+1, api.ErrArg)
	}
}

func most(n int) int { return n + (n+7)/8 }

func TestP4_4_RowsWithoutAnyMatch(t *testing.T) {
	for n := range 100 {
		if got := len(mustPack(t, unlike(noise(), n))); got != most(n) {
			t.Errorf("%d unlike bytes: %d packed, want %d", n, got, most(n))
		}
	}
	for _, n := range []int{1000, 2047, 2048, 2049, api.MaxBlock - 1, api.MaxBlock} {
		if got := len(mustPack(t, unlike(noise(), n))); got != most(n) {
			t.Errorf("%d unlike bytes: %d packed, want %d", n, got, most(n))
		}
	}
}

func TestP4_4_RowsOfAlikeBytes(t *testing.T) {
	for n := range api.MaxBlock + 1 {
		packed := mustPack(t, times(n, 'x'))
		items, size := 0, 0
		if n > 0 {
			items, size = 1, 1
			matches, rest := (n-1)/66, (n-1)%66
			items, size = items+matches, size+2*matches
			if rest >= 3 {
				items, size = items+1, size+2
			} else {
				items, size = items+rest, size+rest
			}
		}
		if want := size + (items+7)/8; len(packed) != want {
			t.Errorf("%d alike bytes: %d packed, want %d", n, len(packed), want)
		}
		if len(packed) > most(n) || n > 33*len(packed) {
			t.Errorf("%d alike bytes: %d packed", n, len(packed))
		}
	}
}

func TestP4_4_NeverMore(t *testing.T) {
	r := noise()
	for i := range 600 {
		n := r.IntN(500)
		for _, data := range [][]byte{letters(r, n, 1+i%40), runs(r, n), letters(r, n, 256)} {
			if got := len(mustPack(t, data)); got > most(n) || n > 33*got {
				t.Errorf("%d bytes: %d packed", n, got)
			}
		}
	}
}

// What unpacks to the most: a literal, and matches of the greatest length behind it.
func TestP4_4_AtMost33ForEachByte(t *testing.T) {
	for matches := range 63 {
		items := literals([]byte("x"))
		for range matches {
			items = append(items, match(1, 66)...)
		}
		packed := laid(items)
		n := 1 + 66*matches
		wantUnpacked(t, "the most", packed, times(n, 'x'))
		if n > 33*len(packed) {
			t.Errorf("%d bytes of %d", n, len(packed))
		}
		for more := 33*len(packed) + 1; more <= api.MaxBlock; more++ {
			wantRefused(t, "more than 33 for each", packed, more, api.ErrPressLong)
		}
	}
}

func TestP4_4_AnyBytesThatAreTaken(t *testing.T) {
	r := noise()
	taken := 0
	for range 20000 {
		packed := letters(r, 2+r.IntN(20), 256)
		packed[0] &= 6
		n := 0
		for ; n < 700; n++ {
			if _, errno := press.Unpack(packed, n); errno == api.OK {
				taken++
				break
			}
		}
		if n < 700 && n > 33*len(packed) {
			t.Errorf("%d bytes of %d", n, len(packed))
		}
	}
	if taken < 100 {
		t.Errorf("%d taken alone", taken)
	}
}

func FuzzBack(f *testing.F) {
	f.Add([]byte("abcabcab"))
	f.Add([]byte{})
	f.Add(times(api.MaxBlock+1, 'x'))
	f.Add(runs(noise(), 2000))
	f.Fuzz(func(t *testing.T, data []byte) {
		got, errno := press.Pack(data)
		want, wanted := packedByWords(data)
		if errno != wanted || !bytes.Equal(got, want) {
			t.Fatalf("% x, %d, want % x, %d", got, errno, want, wanted)
		}
		if errno != api.OK {
			return
		}
		if len(got) > most(len(data)) {
			t.Errorf("%d bytes of %d", len(got), len(data))
		}
		wantUnpacked(t, "back", got, data)
	})
}

func FuzzAnyBytes(f *testing.F) {
	f.Add([]byte{2, 'a', 0, 3}, 7)
	f.Add([]byte{0}, 0)
	f.Add(laid(list(literals([]byte("abcdefg")), match(7, 66), match(73, 66))), 139)
	f.Fuzz(func(t *testing.T, packed []byte, n int) {
		wantAsWords(t, "any bytes", packed, n)
	})
}
