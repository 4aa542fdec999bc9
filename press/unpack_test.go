package press_test

import (
	"fmt"
	"math"
	"testing"

	"freight/api"
	"freight/press"
)

func TestP4_2_Examples(t *testing.T) {
	alike := fromHex(t, "02 61 00 03")
	wantUnpacked(t, "alike bytes", alike, []byte("aaaaaaa"))
	wantRefused(t, "one less", alike, 6, api.ErrPressLong)
	wantRefused(t, "one more", alike, 8, api.ErrPressLong)
	wantRefused(t, "nothing stands ahead", fromHex(t, "01 00 00"), 3, api.ErrPress)
	wantRefused(t, "half a match", fromHex(t, "02 61 00"), 4, api.ErrPress)
	wantRefused(t, "a flag alone", fromHex(t, "00"), 0, api.ErrPress)
	wantRefused(t, "a bit without an item", fromHex(t, "02 61"), 1, api.ErrPress)
	for _, none := range [][]byte{nil, {}} {
		wantUnpacked(t, "nothing", none, nil)
		wantRefused(t, "nothing for one", none, 1, api.ErrPressLong)
		wantRefused(t, "nothing for -1", none, -1, api.ErrArg)
	}
	wantRefused(t, "a distance of 2 behind one byte", fromHex(t, "02 61 00 43"), 6, api.ErrPress)
}

// A number that may not be stands ahead of all that the bytes say.
func TestP4_2_NumbersThatMayNotBe(t *testing.T) {
	for _, n := range []int{math.MinInt, math.MinInt + 1, -1 << 32, -4096, -2, -1, api.MaxBlock + 1, api.MaxBlock + 2, 65536, 1 << 32, 1<<32 + 7, math.MaxInt - 1, math.MaxInt} {
		for _, text := range []string{"", "00", "00 61", "02 61 00 03", "02 61", "01 00 00", "02 61 00", "02 61 00 43"} {
			wantRefused(t, "the number alone", fromHex(t, text), n, api.ErrArg)
		}
	}
}

func TestP4_2_NoughtBytes(t *testing.T) {
	wantUnpacked(t, "no group", nil, nil)
	wantRefused(t, "a literal", fromHex(t, "00 61"), 0, api.ErrPressLong)
	wantRefused(t, "a literal, and a bit behind it", fromHex(t, "02 61"), 0, api.ErrPressLong)
	wantRefused(t, "a match", fromHex(t, "01 00 00"), 0, api.ErrPress)
	wantRefused(t, "half a match", fromHex(t, "01 00"), 0, api.ErrPress)
}

func TestP4_2_MostBytes(t *testing.T) {
	r := noise()
	data := letters(r, api.MaxBlock, 256)
	full := laid(literals(data))
	wantUnpacked(t, "literals", full, data)
	wantUnpacked(t, "and room", roomy(full, 100, 1), data)
	wantRefused(t, "one literal more", laid(literals(row(data, []byte("x")))), api.MaxBlock, api.ErrPressLong)
	wantRefused(t, "one literal fewer", laid(literals(data[1:])), api.MaxBlock, api.ErrPressLong)
	wantRefused(t, "a match more", laid(list(literals(data), match(1024, 3))), api.MaxBlock, api.ErrPressLong)
	ends := laid(list(literals(data[:4030]), match(1, 66)))
	wantUnpacked(t, "a match up to the last", ends, row(data[:4030], times(66, data[4029])))
	wantRefused(t, "a match beyond the last", laid(list(literals(data[:4031]), match(1, 66))), api.MaxBlock, api.ErrPressLong)
}

// Whatever its bits say, a flag has an item behind it.
func TestP4_2_AFlagAlone(t *testing.T) {
	eight := laid(literals([]byte("ABCDEFGH")))
	for flag := range 256 {
		alone := []byte{byte(flag)}
		for _, n := range []int{0, 1, 3, 8, api.MaxBlock} {
			wantRefused(t, "at the beginning", alone, n, api.ErrPress)
		}
		for _, n := range []int{8, 9, 11, 16, api.MaxBlock} {
			wantRefused(t, "behind a group", row(eight, alone), n, api.ErrPress)
		}
		wantRefused(t, "behind an item too many", row(eight, alone), 7, api.ErrPressLong)
	}
}

func TestP4_2_HalfAMatch(t *testing.T) {
	for ahead := range 30 {
		data := unlike(noise(), ahead)
		whole := laid(list(literals(data), match(1, 3)))
		for _, n := range []int{ahead, ahead + 1, ahead + 3, ahead + 4, api.MaxBlock} {
			wantRefused(t, fmt.Sprint("behind ", ahead), whole[:len(whole)-1], n, api.ErrPress)
		}
		if ahead > 0 {
			wantRefused(t, fmt.Sprint("the last of ", ahead, " too many"), whole[:len(whole)-1], ahead-1, api.ErrPressLong)
		}
	}
}

// Of a flag with any bits, in the last group: those of items that there are not must be 0.
func TestP4_2_BitsWithoutAnItem(t *testing.T) {
	for count := 1; count <= 8; count++ {
		data := []byte("ABCDEFGH")[:count]
		for high := range 256 {
			flag := byte(high) &^ (1<<count - 1)
			packed := row([]byte{flag}, data)
			behind := row(laid(literals([]byte("abcdefgh"))), packed)
			if flag == 0 {
				wantUnpacked(t, "no such bit", packed, data)
				wantUnpacked(t, "no such bit, a group ahead", behind, row([]byte("abcdefgh"), data))
				continue
			}
			for _, n := range []int{count, count + 1, count + 3, api.MaxBlock - 8} {
				wantRefused(t, fmt.Sprintf("flag %08b of %d items", flag, count), packed, n, api.ErrPress)
				wantRefused(t, fmt.Sprintf("flag %08b of %d items, a group ahead", flag, count), behind, 8+n, api.ErrPress)
			}
			wantRefused(t, "an item too many ahead of it", packed, count-1, api.ErrPressLong)
		}
	}
}

func TestP4_2_BitBehindAMatch(t *testing.T) {
	wantUnpacked(t, "none", fromHex(t, "02 61 00 00"), []byte("aaaa"))
	for _, flag := range []byte{0x06, 0x0a, 0x12, 0x22, 0x42, 0x82, 0xfe} {
		packed := row([]byte{flag}, fromHex(t, "61 00 00"))
		wantRefused(t, "for all of them", packed, 4, api.ErrPress)
		wantRefused(t, "for more", packed, 5, api.ErrPress)
		wantRefused(t, "for fewer", packed, 3, api.ErrPressLong)
	}
}

func TestP4_2_Distances(t *testing.T) {
	data := letters(noise(), 1100, 256)
	for _, ahead := range []int{0, 1, 2, 3, 7, 8, 9, 63, 64, 65, 255, 256, 257, 1022, 1023, 1024, 1025, 1100} {
		for _, distance := range []int{1, ahead - 1, ahead, ahead + 1, ahead + 2, 1023, 1024} {
			if distance < 1 || distance > 1024 {
				continue
			}
			packed := laid(list(literals(data[:ahead]), match(distance, 3)))
			if distance > ahead {
				for _, n := range []int{ahead, ahead + 1, ahead + 2, ahead + 3, ahead + 4, api.MaxBlock} {
					wantRefused(t, fmt.Sprint(distance, " behind ", ahead), packed, n, api.ErrPress)
				}
				continue
			}
			wantUnpacked(t, fmt.Sprint(distance, " behind ", ahead), packed, grown(data[:ahead], distance, 3))
		}
	}
}

// grown are the bytes and a match behind them.
func grown(data []byte, distance, length int) []byte {
	all := row(data)
	for range length {
		all = append(all, all[len(all)-distance])
	}
	return all
}

// A distance reaches over what matches made, as over literals.
func TestP4_2_DistanceOverMatches(t *testing.T) {
	packed := laid(list(literals([]byte("ab")), match(2, 10), match(12, 20), match(32, 66)))
	wantUnpacked(t, "to the beginning", packed, grown(grown(grown([]byte("ab"), 2, 10), 12, 20), 32, 66))
	wantRefused(t, "one more", laid(list(literals([]byte("ab")), match(2, 10), match(13, 20))), 32, api.ErrPress)
}

// Every distance and every length, as v says them.
func TestP4_2_EveryMatch(t *testing.T) {
	data := letters(noise(), 1024, 256)
	ahead := laid(literals(data))
	for v := range 65536 {
		packed := append(ahead[:len(ahead):len(ahead)], 1, byte(v>>8), byte(v))
		want := grown(data, v/64+1, v%64+3)
		got, errno := press.Unpack(packed, len(want))
		if errno != api.OK || string(got) != string(want) {
			t.Fatalf("v %d: %d bytes, %d", v, len(got), errno)
		}
		if v%97 == 0 {
			wantRefused(t, "one less", packed, len(want)-1, api.ErrPressLong)
			wantRefused(t, "one more", packed, len(want)+1, api.ErrPressLong)
		}
	}
}

// Of one match: half of it, then its distance, then its length.
func TestP4_2_OrderWithinAMatch(t *testing.T) {
	wantRefused(t, "half of one that is too long", fromHex(t, "02 61 00"), 1, api.ErrPress)
	wantRefused(t, "half of one too far", fromHex(t, "02 61 ff"), 1, api.ErrPress)
	wantRefused(t, "too far and too long", fromHex(t, "02 61 00 43"), 1, api.ErrPress)
	wantRefused(t, "too far and too long, nothing ahead", fromHex(t, "01 00 00"), 0, api.ErrPress)
	wantRefused(t, "too long", fromHex(t, "02 61 00 03"), 1, api.ErrPressLong)
	wantRefused(t, "too long by one", fromHex(t, "02 61 00 00"), 3, api.ErrPressLong)
	wantRefused(t, "too long, and a bit behind it", fromHex(t, "06 61 00 00"), 3, api.ErrPressLong)
}

// What is met first is the error, whatever comes behind it.
func TestP4_2_TheFirstThing(t *testing.T) {
	far := match(9, 3)
	long := match(1, 66)
	ab := literals([]byte("ab"))
	wantRefused(t, "too far, then too long", laid(list(ab, far, long)), 5, api.ErrPress)
	wantRefused(t, "too long, then too far", laid(list(ab, long, far)), 5, api.ErrPressLong)
	wantRefused(t, "a literal too many, then too far", laid(list(ab, far)), 1, api.ErrPressLong)
	wantRefused(t, "a literal too many, then half a match", fromHex(t, "04 61 62 00"), 1, api.ErrPressLong)
	wantRefused(t, "a literal too many, then a flag alone", row(laid(literals([]byte("abcdefgh"))), []byte{0}), 7, api.ErrPressLong)
	wantRefused(t, "half a match, and too few bytes", fromHex(t, "02 61 00"), 100, api.ErrPress)
	wantRefused(t, "a flag alone, and too few bytes", fromHex(t, "00"), 100, api.ErrPress)
	wantRefused(t, "a bit, and too few bytes", fromHex(t, "80 61"), 100, api.ErrPress)
	wantRefused(t, "too far in the second group", laid(list(literals([]byte("abcdefgh")), far, long)), 11, api.ErrPress)
	wantRefused(t, "too long in the first group", laid(list(literals([]byte("abcdefg")), long, far)), 11, api.ErrPressLong)
}

func TestP4_2_OneLessAndOneMore(t *testing.T) {
	for count := 1; count <= 40; count++ {
		data := unlike(noise(), count)
		packed := laid(literals(data))
		wantUnpacked(t, "literals", packed, data)
		wantRefused(t, "literals, one less", packed, count-1, api.ErrPressLong)
		wantRefused(t, "literals, one more", packed, count+1, api.ErrPressLong)
		matched := laid(list(literals(data), match(count, 3+count)))
		wantUnpacked(t, "a match", matched, grown(data, count, 3+count))
		wantRefused(t, "a match, one less", matched, 2*count+2, api.ErrPressLong)
		wantRefused(t, "a match, one more", matched, 2*count+4, api.ErrPressLong)
	}
}

// Bytes that Pack would have packed otherwise are taken too.
func TestP4_2_OtherwiseThanPack(t *testing.T) {
	wantUnpacked(t, "literals alone", fromHex(t, "00 61 61 61 61 61 61"), []byte("aaaaaa"))
	wantUnpacked(t, "a shorter match", laid(list(literals([]byte("a")), match(1, 3), match(1, 3))), []byte("aaaaaaa"))
	wantUnpacked(t, "a farther match", laid(list(literals([]byte("aaaaa")), match(5, 3))), []byte("aaaaaaaa"))
}

func TestP4_2_OverItself(t *testing.T) {
	for period := 1; period <= 70; period++ {
		piece := unlike(noise(), period)
		for length := 3; length <= 66; length++ {
			packed := laid(list(literals(piece), match(period, length)))
			wantUnpacked(t, "a period", packed, grown(piece, period, length))
		}
	}
}

func TestP4_2_CutOffAnywhere(t *testing.T) {
	r := noise()
	for _, data := range [][]byte{letters(r, 300, 2), letters(r, 90, 256), runs(r, 900), times(500, 'x'), []byte("abcabcab")} {
		packed := mustPack(t, data)
		for n := range packed {
			cut := packed[:n:n]
			if _, errno := press.Unpack(cut, len(data)); errno == api.OK {
				t.Errorf("cut to %d of %d: taken", n, len(packed))
			}
			for _, many := range []int{0, 1, n, len(data) - 1, len(data), len(data) + 1, api.MaxBlock} {
				wantAsWords(t, "cut off", cut, many)
			}
			wantAsWords(t, "cut off, with room behind it", packed[:n], len(data))
		}
	}
}

func TestP4_2_BehindTheEnd(t *testing.T) {
	data := letters(noise(), 200, 3)
	packed := mustPack(t, data)
	for b := range 256 {
		more := row(packed, []byte{byte(b)})
		if got, errno := press.Unpack(more, len(data)); errno == api.OK {
			t.Errorf("one byte more, %02x: taken as %d bytes", b, len(got))
		}
		wantAsWords(t, "one byte more", more, len(data))
		wantAsWords(t, "one byte more", more, len(data)+1)
	}
}

func TestP4_2_AllShortBytes(t *testing.T) {
	kinds := []byte{0x00, 0x01, 0x02, 0x03, 0x05, 0x40, 0x80}
	for n := range 6 {
		eachRow(n, len(kinds), func(which []byte) {
			packed := make([]byte, n)
			for i, k := range which {
				packed[i] = kinds[k]
			}
			for many := range 12 {
				wantAsWords(t, "short bytes", packed, many)
			}
		})
	}
}

func TestP4_2_AnyBytes(t *testing.T) {
	r := noise()
	for range 20000 {
		packed := letters(r, r.IntN(60), 256)
		for i := 0; i < len(packed); i += 1 + r.IntN(12) {
			packed[i] &= 3 // near distances, few matches
		}
		wantAsWords(t, "noise", packed, r.IntN(300))
	}
	long := times(1<<20, 0)
	wantRefused(t, "a MiB", long, api.MaxBlock, api.ErrPressLong)
	wantRefused(t, "a MiB of matches", times(1<<20, 1), api.MaxBlock, api.ErrPress)
}

func TestP4_2_OneByteIsAnother(t *testing.T) {
	r := noise()
	for range 60 {
		data := runs(r, 1+r.IntN(400))
		packed := mustPack(t, data)
		for i := range packed {
			other := row(packed)
			other[i] ^= byte(1 + r.IntN(255))
			wantAsWords(t, "another byte", other, len(data))
		}
	}
}
