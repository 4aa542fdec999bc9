package press_test

import (
	"bytes"
	"fmt"
	"testing"

	"freight/api"
	"freight/press"
)

func TestP4_1_Examples(t *testing.T) {
	wantPacked(t, "nil", nil, nil)
	wantPacked(t, "no bytes", []byte{}, nil)
	for data, want := range map[string]string{
		"ab":       "00 61 62",
		"aaaaaaa":  "02 61 00 03",
		"abcabcab": "08 61 62 63 00 82",
	} {
		wantPacked(t, data, []byte(data), fromHex(t, want))
	}
}

func TestP4_1_FewBytes(t *testing.T) {
	for data, want := range map[string]string{
		"a":      "00 61",
		"\x00":   "00 00",
		"\xff":   "00 ff",
		"aa":     "00 61 61",
		"abc":    "00 61 62 63",
		"aaa":    "00 61 61 61", // behind the first one there are two alone
		"aaaa":   "02 61 00 00",
		"aaaaa":  "02 61 00 01",
		"baaa":   "00 62 61 61 61",
		"baaaa":  "04 62 61 00 00",
		"ababa":  "04 61 62 00 40",
		"abab":   "00 61 62 61 62",
		"abcabc": "08 61 62 63 00 80",
		"abcab":  "00 61 62 63 61 62",
	} {
		wantPacked(t, data, []byte(data), fromHex(t, want))
	}
}

// Noughts are bytes as all others are.
func TestP4_1_Noughts(t *testing.T) {
	wantPacked(t, "three", times(3, 0), fromHex(t, "00 00 00 00"))
	wantPacked(t, "four", times(4, 0), fromHex(t, "02 00 00 00"))
	wantItems(t, "in the midst", []byte{1, 0, 0, 0, 2, 0, 0, 0, 3}, literals([]byte{1, 0, 0, 0, 2}), match(4, 3), literals([]byte{3}))
	wantItems(t, "at the beginning", []byte{0, 0, 0, 7, 0, 0, 0}, literals([]byte{0, 0, 0, 7}), match(4, 3))
	wantItems(t, "one nought is not more", []byte{0, 0, 7, 0, 0}, literals([]byte{0, 0, 7, 0, 0}))
}

func TestP4_1_EightItemsAndNine(t *testing.T) {
	seven := []byte("ABCDEFG")
	wantPacked(t, "seven", seven, []byte("\x00ABCDEFG"))
	wantPacked(t, "eight", []byte("ABCDEFGH"), []byte("\x00ABCDEFGH"))
	wantPacked(t, "nine", []byte("ABCDEFGHI"), []byte("\x00ABCDEFGH\x00I"))
	wantPacked(t, "sixteen", []byte("ABCDEFGHIJKLMNOP"), []byte("\x00ABCDEFGH\x00IJKLMNOP"))
	wantPacked(t, "seventeen", []byte("ABCDEFGHIJKLMNOPQ"), []byte("\x00ABCDEFGH\x00IJKLMNOP\x00Q"))
	wantPacked(t, "the eighth is a match", []byte("ABCDEFGABC"), []byte("\x80ABCDEFG\x01\x80"))
	wantPacked(t, "the ninth is a match", []byte("ABCDEFGHABC"), []byte("\x00ABCDEFGH\x01\x01\xc0"))
	wantPacked(t, "the eighth and the ninth", []byte("ABCDEFGABCEFG"), []byte("\x80ABCDEFG\x01\x80\x01\x01\x40"))
	wantPacked(t, "a literal behind the eighth", []byte("ABCDEFGABC!"), []byte("\x80ABCDEFG\x01\x80\x00!"))
}

// The bit of a match is the one of its place in the group, in each group.
func TestP4_1_EachBitOfAFlag(t *testing.T) {
	for ahead := 3; ahead < 40; ahead++ {
		data := unlike(noise(), ahead)
		packed := mustPack(t, row(data, data[:3], []byte("zz")))
		flag := packed[ahead/8*9]
		if flag != 1<<(ahead%8) {
			t.Errorf("a match behind %d literals: the flag is %08b", ahead, flag)
		}
		wantItems(t, fmt.Sprint("behind ", ahead), row(data, data[:3], []byte("zz")), literals(data), match(ahead, 3), literals([]byte("zz")))
	}
}

func TestP4_1_AsLongAsMayBe(t *testing.T) {
	r := noise()
	for _, data := range [][]byte{times(api.MaxBlock, 'x'), unlike(r, api.MaxBlock), letters(r, api.MaxBlock, 3)} {
		want, _ := packedByWords(data)
		wantPacked(t, "MaxBlock bytes", data, want)
		wantPacked(t, "MaxBlock bytes and room", roomy(data, 100, 'x'), want)
		wantPacked(t, "MaxBlock - 1 bytes", data[1:], laid(itemsByWords(data[1:])))
	}
	for _, n := range []int{api.MaxBlock + 1, api.MaxBlock + 2, 2 * api.MaxBlock, 65536, 65537, 1 << 20} {
		if packed, errno := press.Pack(times(n, 'x')); errno != api.ErrLong || len(packed) != 0 {
			t.Errorf("%d bytes: %d bytes, %d", n, len(packed), errno)
		}
	}
}

func TestP4_1_TheNearest(t *testing.T) {
	wantItems(t, "of two", []byte("abc1abc2abc"), literals([]byte("abc1")), match(4, 3), literals([]byte("2")), match(4, 3))
	wantItems(t, "of three", []byte("abc1abc23abc456abc"), literals([]byte("abc1")), match(4, 3), literals([]byte("23")), match(5, 3), literals([]byte("456")), match(6, 3))
	wantItems(t, "of two of the greatest length", row(times(67, 'x'), []byte("yz"), times(66, 'x'), []byte("y"), times(66, 'x')),
		literals([]byte("x")), match(1, 66), literals([]byte("yz")), match(68, 66), literals([]byte("y")), match(67, 66))
	wantItems(t, "of two up to the end", []byte("abcd1abcd2abcd"), literals([]byte("abcd1")), match(5, 4), literals([]byte("2")), match(5, 4))
	wantItems(t, "of two periods", []byte("ababababab"), literals([]byte("ab")), match(2, 8))
}

func TestP4_1_TheLongest(t *testing.T) {
	wantItems(t, "the farther", []byte("abcd1abc2abcd"), literals([]byte("abcd1")), match(5, 3), literals([]byte("2")), match(9, 4))
	wantItems(t, "the nearer", []byte("abc1abcd2abcd"), literals([]byte("abc1")), match(4, 3), literals([]byte("d2")), match(5, 4))
	wantItems(t, "the middle one", []byte("abc1abcde2abcd3abcdef"),
		literals([]byte("abc1")), match(4, 3), literals([]byte("de2")), match(6, 4), literals([]byte("3")), match(11, 5), literals([]byte("f")))
	far := []byte("0123456789abcdefghijklmnopqrstuvwxyz")
	for cut := 3; cut < len(far); cut++ { // all beginnings of it stand nearer
		var data []byte
		data = append(data, far...)
		for n := len(far) - 1; n >= cut; n-- {
			data = append(append(data, '!'), far[:n]...)
		}
		ahead := list(itemsByWords(data), literals([]byte("?")))
		wantItems(t, fmt.Sprint("beginnings down to ", cut), row(data, []byte("?"), far), ahead, match(len(data)+1, len(far)))
	}
}

// What comes behind is not looked at: the longest at this place is taken, though a longer one begins at the next.
func TestP4_1_NotTheNextPlace(t *testing.T) {
	wantItems(t, "abc ahead of bcdefg", []byte("abc1bcdefg2abcdefg"),
		literals([]byte("abc1bcdefg2")), match(11, 3), match(8, 4))
	wantItems(t, "abc ahead of bcde", []byte("abc1bcde2abcde"),
		literals([]byte("abc1bcde2")), match(9, 3), literals([]byte("de")))
}

// A match may begin at any earlier place, within what a match made too.
func TestP4_1_WithinAMatch(t *testing.T) {
	wantItems(t, "the second byte of one", []byte("abcdeXabcdeYbcde"), literals([]byte("abcdeX")), match(6, 5), literals([]byte("Y")), match(5, 4))
	wantItems(t, "over its end", []byte("abcdeXabcdeYdeYd"), literals([]byte("abcdeX")), match(6, 5), literals([]byte("Y")), match(3, 4))
	wantItems(t, "the last byte of one", []byte("abcXabcYZcYZ"), literals([]byte("abcX")), match(4, 3), literals([]byte("YZ")), match(3, 3))
	wantItems(t, "over two of them", []byte("abcXdefXabcdef!cde"),
		literals([]byte("abcXdefX")), match(8, 3), match(7, 3), literals([]byte("!")), match(5, 3))
}

func TestP4_1_OverItself(t *testing.T) {
	for period := 1; period <= 70; period++ {
		piece := unlike(noise(), period)
		for _, more := range []int{0, 1, 2, 3, 4, 65, 66} {
			data := row(piece, bytes.Repeat(piece, 70)[:more])
			want := literals(data)
			if more >= 3 {
				want = list(literals(piece), match(period, more))
			}
			wantItems(t, fmt.Sprint("a period of ", period, " and ", more, " more"), data, want)
		}
	}
}

func TestP4_1_LeastLength(t *testing.T) {
	wantItems(t, "one alike", []byte("abcd1a2"), literals([]byte("abcd1a2")))
	wantItems(t, "two alike", []byte("abcd1ab2"), literals([]byte("abcd1ab2")))
	wantItems(t, "three alike", []byte("abcd1abc2"), literals([]byte("abcd1")), match(5, 3), literals([]byte("2")))
	wantItems(t, "four alike", []byte("abcd1abcd2"), literals([]byte("abcd1")), match(5, 4), literals([]byte("2")))
	wantItems(t, "unlike in the midst", []byte("abcd1aBcd"), literals([]byte("abcd1aBcd")))
	wantItems(t, "unlike first", []byte("abcd1Abc"), literals([]byte("abcd1Abc")))
}

func TestP4_1_GreatestLength(t *testing.T) {
	piece := unlike(noise(), 200)
	one := func(n int) []byte { return row(piece, []byte("1"), piece[:n], []byte("2")) }
	ahead := literals(row(piece, []byte("1")))
	two := literals([]byte("2"))
	wantItems(t, "65", one(65), ahead, match(201, 65), two)
	wantItems(t, "66", one(66), ahead, match(201, 66), two)
	wantItems(t, "67", one(67), ahead, match(201, 66), literals(piece[66:67]), two)
	wantItems(t, "68", one(68), ahead, match(201, 66), literals(piece[66:68]), two)
	wantItems(t, "69", one(69), ahead, match(201, 66), match(201, 3), two)
	wantItems(t, "132", one(132), ahead, match(201, 66), match(201, 66), two)
	wantItems(t, "133", one(133), ahead, match(201, 66), match(201, 66), literals(piece[132:133]), two)
	wantItems(t, "alike: 66 behind the first", times(67, 'x'), literals([]byte("x")), match(1, 66))
	wantItems(t, "alike: 67 behind the first", times(68, 'x'), literals([]byte("x")), match(1, 66), literals([]byte("x")))
	wantItems(t, "alike: 69 behind the first", times(70, 'x'), literals([]byte("x")), match(1, 66), match(1, 3))
}

func TestP4_1_GreatestDistance(t *testing.T) {
	tail := []byte("abc")
	for _, distance := range []int{1000, 1022, 1023, 1024} {
		between := unlike(noise(), distance-3)
		wantItems(t, fmt.Sprint(distance, " at the beginning"), row(tail, between, tail), literals(row(tail, between)), match(distance, 3))
		wantItems(t, fmt.Sprint(distance, " behind some"), row([]byte("012"), tail, between, tail), literals(row([]byte("012"), tail, between)), match(distance, 3))
	}
	for _, distance := range []int{1025, 1026, 1088, 2048, 2049} {
		data := row(tail, unlike(noise(), distance-3), tail)
		wantItems(t, fmt.Sprint(distance), data, literals(data))
	}
}

// Where a longer match begins too far off, a nearer and shorter one is taken.
func TestP4_1_TooFarAndLonger(t *testing.T) {
	between := unlike(noise(), 1018)
	data := row([]byte("abcdefg"), between, []byte("abcdefg"))
	wantItems(t, "1025 away", data, literals(data))
	data = row([]byte("!abcdef"), between, []byte("abcdef"))
	wantItems(t, "1024 away", data, literals(row([]byte("!abcdef"), between)), match(1024, 6))
	between = unlike(noise(), 1013)
	data = row([]byte("abcdefg0abc1"), between, []byte("abcdefg"))
	wantItems(t, "1025 and 1017", data, literals([]byte("abcdefg0")), match(8, 3), literals(row([]byte("1"), between)), match(1017, 3), literals([]byte("defg")))
}

func TestP4_1_UpToTheLastByte(t *testing.T) {
	for n := 1; n <= 70; n++ {
		piece := unlike(noise(), 100)
		data := row(piece, []byte("1"), piece[:n])
		want := literals(data)
		switch {
		case n > 66 && n < 69:
			want = list(literals(data[:101]), match(101, 66), literals(piece[66:n]))
		case n >= 69:
			want = list(literals(data[:101]), match(101, 66), match(101, n-66))
		case n >= 3:
			want = list(literals(data[:101]), match(101, n))
		}
		wantItems(t, fmt.Sprint("the last ", n), data, want)
	}
}

// Spare room behind the data is no data, though it would make matches longer.
func TestP4_1_RoomIsNotCounted(t *testing.T) {
	wantItems(t, "two and room", roomy([]byte("aaa"), 50, 'a'), literals([]byte("aaa")))
	wantItems(t, "six and room", roomy([]byte("aaaaaaa"), 50, 'a'), literals([]byte("a")), match(1, 6))
	wantPacked(t, "none and room", roomy(nil, 50, 'a'), nil)
}

func TestP4_1_AsTheWordsSay(t *testing.T) {
	r := noise()
	for i := range 400 {
		n := r.IntN(300)
		if i%40 == 0 {
			n = r.IntN(api.MaxBlock + 1)
		}
		for _, data := range [][]byte{letters(r, n, 1+i%6), letters(r, n, 256), runs(r, n), times(n, byte(i))} {
			want, _ := packedByWords(data)
			wantPacked(t, "noise", data, want)
		}
	}
}

// The last places of long rows: many matches too far off, many just near enough.
func TestP4_1_AsTheWordsSayOfLongRows(t *testing.T) {
	r := noise()
	for _, n := range []int{1023, 1024, 1025, 1026, 1090, 2048, 2100, 4095, api.MaxBlock} {
		for kinds := 1; kinds <= 64; kinds *= 2 {
			data := letters(r, n, kinds)
			wantPacked(t, fmt.Sprint(n, " of ", kinds, " kinds"), data, laid(itemsByWords(data)))
		}
		data := runs(r, n)
		wantPacked(t, fmt.Sprint(n, " in runs"), data, laid(itemsByWords(data)))
		period := bytes.Repeat(unlike(r, 1020+n%10), 5)[:n]
		wantPacked(t, fmt.Sprint(n, " in long periods"), period, laid(itemsByWords(period)))
	}
}

// eachRow goes through all rows of n bytes of so many kinds.
func eachRow(n, kinds int, visit func([]byte)) {
	data := make([]byte, n)
	for {
		visit(data)
		i := 0
		for i < n && int(data[i]) == kinds-1 {
			data[i] = 0
			i++
		}
		if i == n {
			return
		}
		data[i]++
	}
}

func TestP4_1_AllShortRows(t *testing.T) {
	for kinds, most := range map[int]int{1: 90, 2: 13, 3: 8, 4: 6} {
		for n := range most + 1 {
			eachRow(n, kinds, func(data []byte) {
				want, _ := packedByWords(data)
				wantPacked(t, "a short row", data, want)
			})
		}
	}
}
