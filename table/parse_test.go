package table_test

import (
	"bytes"
	"math/rand/v2"
	"slices"
	"testing"

	"freight/api"
)

// counted are bytes that begin as they are told, and then have n results.
func counted(count string, n int) []byte {
	data := []byte(count)
	for _, one := range numbered(n, 0, 1) {
		data = append(data, writtenByWords([]api.Result{one})[1:]...)
	}
	return data
}

func TestP8_2_Tables(t *testing.T) {
	wantParsed(t, []byte{0}, nil)
	wantParsed(t, append([]byte{1}, make([]byte, 65)...), []api.Result{{}})
	for n := range 33 {
		wantParsed(t, counted(string([]byte{byte(n)}), n), numbered(n, 0, 1))
	}
	for code := range 256 {
		data := append([]byte{1}, make([]byte, 65)...)
		data[65] = byte(code)
		wantParsed(t, data, []api.Result{{Code: code}})
	}
}

// Which bytes are the action's, the root's, the code's.
func TestP8_2_Places(t *testing.T) {
	data := make([]byte, 1+2*65)
	for i := range data {
		data[i] = byte(i + 1)
	}
	data[0] = 2
	var want [2]api.Result
	for i := range want {
		at := 1 + 65*i
		want[i] = api.Result{Action: api.ID(data[at : at+32]), Root: api.ID(data[at+32 : at+64]), Code: int(data[at+64])}
	}
	wantParsed(t, data, want[:])
}

// turns are what a byte is turned with: in a long row only some, for time's sake.
func turns(data []byte) []byte {
	if len(data) > 300 {
		return []byte{1, 2, 4, 8, 16, 32, 64, 127, 128, 255}
	}
	var all []byte
	for b := 1; b < 256; b++ {
		all = append(all, byte(b))
	}
	return all
}

func TestP8_2_OneByteTurned(t *testing.T) {
	for _, results := range some() {
		data := writtenByWords(results)
		for at := range data {
			for _, turn := range turns(data) {
				data[at] ^= turn
				wantReadAsTheWords(t, data)
				data[at] ^= turn
			}
		}
	}
}

func TestP8_2_CutAtEveryPlace(t *testing.T) {
	for _, results := range some() {
		data := writtenByWords(results)
		for n := range data {
			wantNotParsed(t, "cut", data[:n])
		}
	}
}

func TestP8_2_BytesBehindIt(t *testing.T) {
	for _, results := range some() {
		data := writtenByWords(results)
		for b := range 256 {
			wantNotParsed(t, "a byte behind it", append(bytes.Clone(data), byte(b)))
		}
		for _, n := range []int{2, 32, 64, 65, 66, 130, 1000} {
			wantNotParsed(t, "noughts behind it", append(bytes.Clone(data), make([]byte, n)...))
			wantNotParsed(t, "bytes behind it", append(bytes.Clone(data), bytes.Repeat([]byte{255}, n)...))
		}
		wantNotParsed(t, "a table behind it", append(bytes.Clone(data), data...))
	}
}

func TestP8_2_BytesGoneOrAddedWithin(t *testing.T) {
	for _, results := range some() {
		data := writtenByWords(results)
		for at := range data {
			wantReadAsTheWords(t, slices.Delete(bytes.Clone(data), at, at+1))
			for _, b := range []byte{0, 1, 32, 128, 255} {
				wantReadAsTheWords(t, slices.Insert(bytes.Clone(data), at, b))
			}
		}
	}
}

func TestP8_2_NumberInOneForm(t *testing.T) {
	for _, nought := range []string{"\x80\x00", "\x80\x80\x00", "\x80\x80\x80\x00", "\x80\x80\x80\x80\x00", "\x80\x80\x80\x80\x80\x00", "\x80\x80\x80\x80\x10", "\x80", "\x80\x80", "\x80\x80\x80\x80", "\x80\x80\x80\x80\x80"} {
		wantNotParsed(t, "nought", []byte(nought))
		wantNotParsed(t, "nought", counted(nought, 1))
	}
	for _, one := range []string{"\x81\x00", "\x81\x80\x00", "\x81\x80\x80\x00", "\x81\x80\x80\x80\x00", "\x81\x80\x80\x80\x80\x00", "\x81\x80\x80\x80\x10"} {
		wantNotParsed(t, "one", counted(one, 1))
		wantNotParsed(t, "one", counted(one, 0))
	}
	wantParsed(t, counted("\x20", 32), numbered(32, 0, 1))
	wantNotParsed(t, "32", counted("\xa0\x00", 32))
	wantNotParsed(t, "32", counted("\xa0\x80\x00", 32))
}

func TestP8_2_Count(t *testing.T) {
	for _, n := range []int{33, 34, 64, 127} {
		wantNotParsed(t, "too many", counted(string([]byte{byte(n)}), n))
		wantNotParsed(t, "too many, not all there", counted(string([]byte{byte(n)}), 32))
		wantNotParsed(t, "too many, none there", counted(string([]byte{byte(n)}), 0))
	}
	wantNotParsed(t, "33 results, like ones", append([]byte{33}, make([]byte, 33*65)...))
	wantNotParsed(t, "128", counted("\x80\x01", 128))
	wantNotParsed(t, "160, whose lowest seven bits are 32", counted("\xa0\x01", 32))
	wantNotParsed(t, "160", counted("\xa0\x01", 160))
	wantNotParsed(t, "256, whose lowest byte is 0", counted("\x80\x02", 0))
	wantNotParsed(t, "256", counted("\x80\x02", 256))
	wantNotParsed(t, "288, whose lowest byte is 32", counted("\xa0\x02", 32))
	wantNotParsed(t, "16384", counted("\x80\x80\x01", 16384))
	for n := range 36 {
		for count := range 36 {
			if n != count {
				wantNotParsed(t, "another count", counted(string([]byte{byte(count)}), n))
			}
		}
	}
	for _, huge := range []string{"\xff\xff\xff\xff\x07", "\x80\x80\x80\x80\x04", "\xff\xff\xff\xff\x08", "\xff\xff\xff\xff\x0f"} {
		for _, n := range []int{0, 1, 32, 300} {
			wantNotParsed(t, "huge", counted(huge, n))
		}
	}
}

// Each piece can be taken, but what they tell is no table. (Codes are those of
// one byte here, so only the order and the count can be wrong.)
func TestP8_2_ResultsThatAreNoTable(t *testing.T) {
	for _, pair := range pairs() {
		low, high := pair[0], pair[1]
		wantParsed(t, writtenByWords(plain(low, high)), plain(low, high))
		wantNotParsed(t, "falling", writtenByWords(plain(high, low)))
		wantNotParsed(t, "twice", writtenByWords(plain(low, low)))
		wantNotParsed(t, "twice at last", writtenByWords(plain(low, high, high)))
		wantNotParsed(t, "falling at last", writtenByWords(plain(low, high, low)))
	}
	great := numbered(32, 0, 1)
	for at := range 31 {
		wantNotParsed(t, "swapped", writtenByWords(swapped(great, at)))
		twice := changed(great, at, func(one *api.Result) { one.Action = great[at+1].Action })
		wantNotParsed(t, "twice", writtenByWords(twice))
	}
	wantNotParsed(t, "noughts", append([]byte{2}, make([]byte, 130)...))
}

// bent is a table's bytes with some things wrong, or any bytes.
func bent(r *rand.Rand) []byte {
	data := writtenByWords(noiseTable(r))
	for range r.IntN(3) {
		at := r.IntN(len(data))
		switch r.IntN(4) {
		case 0:
			data[at] = byte(r.Uint32())
		case 1:
			data[at] ^= 1 << r.IntN(8)
		case 2:
			data = slices.Insert(data, at, byte(r.IntN(5)))
		case 3:
			if len(data) > 1 {
				data = slices.Delete(data, at, at+1)
			}
		}
	}
	if r.IntN(10) == 0 {
		for i := range data {
			data[i] = byte(r.Uint32())
		}
	}
	return data
}

func TestP8_2_AnyBytes(t *testing.T) {
	r := noise()
	for range 20000 {
		wantReadAsTheWords(t, bent(r))
	}
	wantNotParsed(t, "a million noughts", make([]byte, 1000000))
	wantNotParsed(t, "a million bytes", bytes.Repeat([]byte{1, 0}, 500000))
	wantNotParsed(t, "a million bytes", bytes.Repeat([]byte{255}, 1000000))
}

// All rows of at most five bytes out of some.
func TestP8_2_AllShortRows(t *testing.T) {
	var grow func(data []byte)
	grow = func(data []byte) {
		wantReadAsTheWords(t, data)
		if len(data) == 5 {
			return
		}
		for _, b := range []byte{0, 1, 2, 32, 33, 127, 128, 255} {
			grow(append(data[:len(data):len(data)], b))
		}
	}
	grow(nil)
}
