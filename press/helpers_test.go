package press_test

import (
	"bytes"
	"encoding/hex"
	"math/rand/v2"
	"strings"
	"testing"

	"freight/api"
	"freight/press"
)

// noise is the same row of numbers in every run.
func noise() *rand.Rand { return rand.New(rand.NewPCG(4, 1024)) }

// letters are n bytes of so many kinds.
func letters(r *rand.Rand, n, kinds int) []byte {
	data := make([]byte, n)
	for i := range data {
		data[i] = byte(r.IntN(kinds))
	}
	return data
}

// runs are n bytes in which long pieces come again, at any distance, over themselves too.
func runs(r *rand.Rand, n int) []byte {
	data := letters(r, min(n, 5), 256)
	for len(data) < n {
		from := r.IntN(len(data))
		for range min(1+r.IntN(150), n-len(data)) {
			data = append(data, data[from])
			from++
		}
		if len(data) < n {
			data = append(data, byte(r.Uint32()))
		}
	}
	return data
}

// unlike are n bytes, none of them below 128, of which no three in a row come twice: no match begins anywhere.
func unlike(r *rand.Rand, n int) []byte {
	var data []byte
	met := map[[3]byte]bool{}
	for len(data) < n {
		data = append(data, byte(128+r.IntN(128)))
		if len(data) < 3 {
			continue
		}
		last := [3]byte(data[len(data)-3:])
		if met[last] {
			data = data[:len(data)-1]
		}
		met[last] = true
	}
	return data
}

func times(n int, b byte) []byte { return bytes.Repeat([]byte{b}, n) }

func row(pieces ...[]byte) []byte { return bytes.Join(pieces, nil) }

// item is what packed bytes are made of: a literal, or (with a length) a match.
type item struct {
	literal          byte
	distance, length int
}

func literals(data []byte) []item {
	var all []item
	for _, b := range data {
		all = append(all, item{literal: b})
	}
	return all
}

func match(distance, length int) []item {
	return []item{{distance: distance, length: length}}
}

func list(parts ...[]item) []item {
	var all []item
	for _, p := range parts {
		all = append(all, p...)
	}
	return all
}

// laid are these items as packed bytes, by the chapter's Words: all groups are made first, then written.
func laid(items []item) []byte {
	var packed []byte
	for len(items) > 0 {
		group := items[:min(8, len(items))]
		items = items[len(group):]
		flag, power, behind := 0, 1, []byte(nil)
		for _, i := range group {
			if i.length == 0 {
				behind = append(behind, i.literal)
			} else {
				v := 64*(i.distance-1) + i.length - 3
				behind = append(behind, byte(v/256), byte(v%256))
				flag += power
			}
			power *= 2
		}
		packed = append(append(packed, byte(flag)), behind...)
	}
	return packed
}

// itemsByWords are the items that P4.1 takes: every distance is tried at every place.
func itemsByWords(data []byte) []item {
	var all []item
	for at := 0; at < len(data); {
		best := item{literal: data[at]}
		for distance := 1; distance <= 1024 && distance <= at; distance++ {
			length := 0
			for length < 66 && at+length < len(data) && data[at+length] == data[at+length-distance] {
				length++
			}
			if length >= 3 && length > best.length {
				best = item{distance: distance, length: length}
			}
		}
		all = append(all, best)
		at += max(1, best.length)
	}
	return all
}

func packedByWords(data []byte) ([]byte, api.Errno) {
	if len(data) > 4096 {
		return nil, api.ErrLong
	}
	return laid(itemsByWords(data)), api.OK
}

// unpackedByWords is P4.2, group by group.
func unpackedByWords(packed []byte, n int) ([]byte, api.Errno) {
	if n < 0 || n > 4096 {
		return nil, api.ErrArg
	}
	var came []byte
	for at := 0; at < len(packed); {
		flag := packed[at]
		at++
		if at == len(packed) {
			return nil, api.ErrPress
		}
		for _, bit := range []byte{1, 2, 4, 8, 16, 32, 64, 128} {
			is := flag&bit != 0
			switch {
			case at == len(packed) && is:
				return nil, api.ErrPress
			case at == len(packed):
			case !is && len(came)+1 > n:
				return nil, api.ErrPressLong
			case !is:
				came = append(came, packed[at])
				at++
			case at+1 == len(packed):
				return nil, api.ErrPress
			default:
				v := 256*int(packed[at]) + int(packed[at+1])
				at += 2
				if v/64+1 > len(came) {
					return nil, api.ErrPress
				}
				if len(came)+v%64+3 > n {
					return nil, api.ErrPressLong
				}
				for range v%64 + 3 {
					came = append(came, came[len(came)-v/64-1])
				}
			}
		}
	}
	if len(came) < n {
		return nil, api.ErrPressLong
	}
	return came, api.OK
}

// roomy is a copy of data with spare room that is full of one byte.
func roomy(data []byte, spare int, fill byte) []byte {
	whole := append(bytes.Clone(data), bytes.Repeat([]byte{fill}, spare)...)
	return whole[:len(data)]
}

// fromHex are the bytes of a text of digits and spaces.
func fromHex(t *testing.T, text string) []byte {
	t.Helper()
	data, err := hex.DecodeString(strings.ReplaceAll(text, " ", ""))
	if err != nil {
		t.Fatal(err)
	}
	return data
}

func mustPack(t *testing.T, data []byte) []byte {
	t.Helper()
	packed, errno := press.Pack(data)
	if errno != api.OK {
		t.Fatalf("Pack of %d bytes: %d", len(data), errno)
	}
	return packed
}

func wantPacked(t *testing.T, what string, data, want []byte) {
	t.Helper()
	got, errno := press.Pack(data)
	if errno != api.OK || !bytes.Equal(got, want) {
		t.Errorf("%s: Pack of %d bytes is % x, %d, want % x", what, len(data), got, errno, want)
	}
}

func wantItems(t *testing.T, what string, data []byte, want ...[]item) {
	t.Helper()
	wantPacked(t, what, data, laid(list(want...)))
}

func wantUnpacked(t *testing.T, what string, packed []byte, want []byte) {
	t.Helper()
	got, errno := press.Unpack(packed, len(want))
	if errno != api.OK || !bytes.Equal(got, want) {
		t.Errorf("%s: Unpack of % x is % x, %d, want % x", what, packed, got, errno, want)
	}
}

// wantRefused asks for the error, and by W3 for nothing beside it.
func wantRefused(t *testing.T, what string, packed []byte, n int, want api.Errno) {
	t.Helper()
	got, errno := press.Unpack(packed, n)
	if errno != want || len(got) != 0 {
		t.Errorf("%s: Unpack of %d bytes % x for %d is % x, %d, want error %d", what, len(packed), packed, n, got, errno, want)
	}
}

// wantAsWords asks for what P4.2 says of these bytes, whatever it is.
func wantAsWords(t *testing.T, what string, packed []byte, n int) {
	t.Helper()
	got, errno := press.Unpack(packed, n)
	want, wanted := unpackedByWords(packed, n)
	if errno != wanted || !bytes.Equal(got, want) {
		t.Errorf("%s: Unpack of % x for %d is % x, %d, want % x, %d", what, packed, n, got, errno, want, wanted)
	}
}
