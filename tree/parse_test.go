package tree_test

import (
	"bytes"
	"math/rand/v2"
	"slices"
	"strings"
	"testing"

	"freight/api"
	"freight/tree"
)

func TestP7_4_Trees(t *testing.T) {
	wantParsed(t, []byte("T\x00"), nil)
	wantParsed(t, []byte("T\x02\x03\x03bin"+row(1)+"\x02\x02\xc3\xa9"+row(2)),
		[]api.Entry{{Name: "bin", Kind: 3, ID: idOf(1)}, {Name: "\u00e9", Kind: 2, ID: idOf(2)}})
	wantParsed(t, writtenByWords(longest()), longest())
	for n := range 33 {
		entries := files(numbered(n, 2)...)
		wantParsed(t, writtenByWords(entries), entries)
	}
}

// some trees whose bytes are turned, cut, and followed by others.
func some() [][]api.Entry {
	r := noise()
	trees := [][]api.Entry{nil, files("a"), files("a", "a-", "aa"), files("\u00e9", "\ufffd", "\U0010ffff"), longest()}
	for range 5 {
		trees = append(trees, noiseTree(r))
	}
	return trees
}

// turns are what a byte is turned with: in a long row only some, for time's sake.
func turns(data []byte) []byte {
	if len(data) > 300 {
		return []byte{1, 2, 3, 4, 8, 16, 32, 64, 128, 255}
	}
	var all []byte
	for b := 1; b < 256; b++ {
		all = append(all, byte(b))
	}
	return all
}

func TestP7_4_OneByteTurned(t *testing.T) {
	for _, entries := range some() {
		data := writtenByWords(entries)
		for at := range data {
			for _, turn := range turns(data) {
				data[at] ^= turn
				wantAsTheWords(t, data)
				data[at] ^= turn
			}
		}
	}
}

func TestP7_4_CutAtEveryPlace(t *testing.T) {
	for _, entries := range some() {
		data := writtenByWords(entries)
		for n := range data {
			wantNotParsed(t, "cut", data[:n])
		}
	}
}

func TestP7_4_BytesBehindIt(t *testing.T) {
	for _, entries := range some() {
		data := writtenByWords(entries)
		for b := range 256 {
			wantNotParsed(t, "a byte behind it", append(bytes.Clone(data), byte(b)))
		}
		for _, more := range []string{"T\x00", "\x01\x01~" + row(7), "\x01\x01\xf4\x8f\xbf\xbf" + row(7), row(0), row(84)} {
			wantNotParsed(t, "bytes behind it", append(bytes.Clone(data), more...))
		}
		wantNotParsed(t, "a tree behind it", append(bytes.Clone(data), data...))
	}
}

func TestP7_4_BytesGoneOrAddedWithin(t *testing.T) {
	for _, entries := range some() {
		data := writtenByWords(entries)
		for at := range data {
			wantAsTheWords(t, slices.Delete(bytes.Clone(data), at, at+1))
			for _, b := range []byte{0, 1, 32, 84, 128, 255} {
				wantAsTheWords(t, slices.Insert(bytes.Clone(data), at, b))
			}
		}
	}
}

func TestP7_4_FirstByte(t *testing.T) {
	for b := range 256 {
		if b != 84 {
			wantNotParsed(t, "first byte", []byte{byte(b), 0})
			wantNotParsed(t, "first byte", []byte(string([]byte{byte(b)})+"\x01\x01\x01a"+row(7)))
		}
	}
}

func TestP7_4_NumbersInOneForm(t *testing.T) {
	entry := "\x01\x01a" + row(7)
	wantParsed(t, []byte("T\x01"+entry), files("a"))
	for _, one := range []string{"\x81\x00", "\x81\x80\x00", "\x81\x80\x80\x00", "\x81\x80\x80\x80\x00", "\x81\x80\x80\x80\x80\x00", "\x81\x80\x80\x80\x10"} {
		wantNotParsed(t, "count", []byte("T"+one+entry))
		wantNotParsed(t, "length", []byte("T\x01\x01"+one+"a"+row(7)))
	}
	for _, nought := range []string{"\x80\x00", "\x80\x80\x00", "\x80\x80\x80\x80\x00", "\x80\x80\x80\x80\x80", "\x80", "\x80\x80\x80\x80"} {
		wantNotParsed(t, "count", []byte("T"+nought))
		wantNotParsed(t, "length", []byte("T\x01\x01"+nought+row(7)))
	}
	long := strings.Repeat("n", 32)
	wantParsed(t, []byte("T\x01\x01\x20"+long+row(7)), files(long))
	wantNotParsed(t, "length", []byte("T\x01\x01\xa0\x00"+long+row(7)))
	all := string(writtenByWords(longest()))
	wantNotParsed(t, "count", []byte("T\xa0\x00"+all[2:]))
}

func TestP7_4_Count(t *testing.T) {
	var all strings.Builder
	for _, name := range numbered(300, 3) {
		all.WriteString("\x01\x03" + name + row(7))
	}
	part := func(n int) string { return all.String()[:n*37] }
	wantParsed(t, []byte("T\x20"+part(32)), files(numbered(32, 3)...))
	for _, n := range []int{33, 34, 64, 127} {
		wantNotParsed(t, "too many", []byte("T"+string([]byte{byte(n)})+part(n)))
		wantNotParsed(t, "too many, not all there", []byte("T"+string([]byte{byte(n)})+part(32)))
	}
	wantNotParsed(t, "128", []byte("T\x80\x01"+part(128)))
	wantNotParsed(t, "160, whose lowest seven bits are 32", []byte("T\xa0\x01"+part(32)))
	wantNotParsed(t, "256", []byte("T\x80\x02"+part(256)))
	wantNotParsed(t, "288, whose lowest byte is 32", []byte("T\xa0\x02"+part(32)))
	for n := range 36 {
		for count := range 36 {
			if n != count {
				wantNotParsed(t, "another count", []byte("T"+string([]byte{byte(count)})+part(n)))
			}
		}
	}
	for _, huge := range []string{"\xff\xff\xff\xff\x07", "\x80\x80\x80\x80\x04", "\xff\xff\xff\xff\x08", "\xff\xff\xff\xff\x0f"} {
		wantNotParsed(t, "huge", []byte("T"+huge))
		wantNotParsed(t, "huge", []byte("T"+huge+part(32)))
		wantNotParsed(t, "huge", []byte("T"+huge+part(300)))
	}
}

func TestP7_4_Lengths(t *testing.T) {
	for n := range 100 {
		data := []byte("T\x01\x01" + string([]byte{byte(n)}) + strings.Repeat("n", n) + row(7))
		if n >= 1 && n <= 32 {
			wantParsed(t, data, files(strings.Repeat("n", n)))
		} else {
			wantNotParsed(t, "length", data)
		}
	}
	wantNotParsed(t, "128", []byte("T\x01\x01\x80\x01"+strings.Repeat("n", 128)+row(7)))
	wantNotParsed(t, "160", []byte("T\x01\x01\xa0\x01"+strings.Repeat("n", 160)+row(7)))
	wantNotParsed(t, "160 of which 32 are there", []byte("T\x01\x01\xa0\x01"+strings.Repeat("n", 32)+row(7)))
	wantNotParsed(t, "huge", []byte("T\x01\x01\xff\xff\xff\xff\x07"+strings.Repeat("n", 32)+row(7)))
}

// wantReadAndNoTree: each piece can be taken, but what they tell is no tree.
func wantReadAndNoTree(t *testing.T, what string, entries []api.Entry) {
	t.Helper()
	wantNotParsed(t, what, writtenByWords(entries))
}

func TestP7_4_EntriesThatAreNoTree(t *testing.T) {
	for _, name := range []string{"", ".", "..", "/", "a/b", "\x00", "\x1f", "a\n", "\x7f", "\x80", "\xc3", "\xc0\xaf", "\xed\xa0\x80", "\xf4\x90\x80\x80", "\xff", "\xef\xbf", strings.Repeat("n", 33)} {
		wantReadAndNoTree(t, "name", files(name))
		entries := files(name, " ", "-", "0", "\U0010ffff")
		slices.SortFunc(entries, func(a, b api.Entry) int { return strings.Compare(a.Name, b.Name) })
		wantReadAndNoTree(t, "name in order", entries)
	}
	for kind := range 256 {
		entries := files("a", "b", "c")
		entries[kind%3].Kind = kind
		if kind >= 1 && kind <= 3 {
			wantParsed(t, writtenByWords(entries), entries)
		} else {
			wantReadAndNoTree(t, "kind", entries)
		}
	}
	for _, names := range [][]string{{"b", "a"}, {"a", "a"}, {"aa", "a"}, {"aa", "a-"}, {"a", "b", "a"}, {"a", "c", "b"}, {"a", "b", "b"}, {"\u00e9", "z"}, {"\U00010000", "\uffff"}, {"\u00e9", "\u00e9"}} {
		wantReadAndNoTree(t, "order", files(names...))
	}
	names := numbered(32, 32)
	for i := range len(names) - 1 {
		turned := slices.Clone(names)
		turned[i], turned[i+1] = turned[i+1], turned[i]
		wantReadAndNoTree(t, "turned", files(turned...))
	}
	wantReadAndNoTree(t, "like names, unlike kinds", []api.Entry{{Name: "a", Kind: 1}, {Name: "a", Kind: 2}})
}

func TestP7_4_OrderAsTheWordsSay(t *testing.T) {
	names := []string{" ", "-", "a", "a ", "a-", "aa", "b", "z", "~", "\u0080", "\u00e9", "\u07ff", "\u0800", "\ufffd", "\uffff", "\U00010000", "\U0010ffff"}
	for _, first := range names {
		for _, second := range names {
			for _, third := range names {
				wantAsTheWords(t, writtenByWords(files(first, second, third)))
			}
		}
	}
}

// bent is a tree's bytes with some things wrong, or any bytes.
func bent(r *rand.Rand) []byte {
	data := writtenByWords(noiseTree(r))
	for range r.IntN(3) {
		at := r.IntN(len(data))
		switch r.IntN(4) {
		case 0:
			data[at] = byte(r.Uint32())
		case 1:
			data[at] ^= 1 << r.IntN(8)
		case 2:
			data = slices.Insert(data, at, byte(r.IntN(5)))
		case 3:
			if len(data) > 1 {
				data = slices.Delete(data, at, at+1)
			}
		}
	}
	if r.IntN(10) == 0 {
		for i := range data {
			data[i] = byte(r.Uint32())
		}
	}
	return data
}

func TestP7_4_AnyBytes(t *testing.T) {
	r := noise()
	for range 20000 {
		wantAsTheWords(t, bent(r))
	}
	wantNotParsed(t, "a million bytes", bytes.Repeat([]byte{84, 0}, 500000))
	wantNotParsed(t, "a million bytes", make([]byte, 1000000))
}

// All rows of at most five bytes out of some.
func TestP7_4_AllShortRows(t *testing.T) {
	var grow func(data []byte)
	grow = func(data []byte) {
		wantAsTheWords(t, data)
		if len(data) == 5 {
			return
		}
		for _, b := range []byte{0, 1, 2, 3, 32, 33, 84, 'a', 127, 128, 255} {
			grow(append(data[:len(data):len(data)], b))
		}
	}
	grow(nil)
}

// What a panic is used for inside is not to be seen outside: neither does one
// come out, nor does a call that is made while another one is under way end it.
func TestW1_WhileAnotherPanicIsUnderWay(t *testing.T) {
	asked := 0
	came := func() (came any) {
		defer func() { came = recover() }()
		defer func() {
			wantParsed(t, []byte("T\x01\x01\x01a"+row(7)), files("a"))
			wantNotParsed(t, "cut", []byte("T\x01\x01\x01a"))
			wantParsed(t, []byte("T\x00"), nil)
			asked++
		}()
		panic("another")
	}()
	if asked != 1 || came != "another" {
		t.Errorf("asked %d times; what came out: %v", asked, came)
	}
}

// Each call on its own, whatever was refused ahead of it.
func TestW2_NothingIsKept(t *testing.T) {
	good := writtenByWords(longest())
	for n := range good {
		if n%50 == 0 {
			wantNotParsed(t, "cut", good[:n])
			wantParsed(t, good, longest())
			wantNotEncoded(t, "kind", []api.Entry{{Name: "a"}})
			wantEncoded(t, longest(), good)
		}
	}
}

func TestW2_ManyAtOnce(t *testing.T) {
	answers := make(chan bool)
	good, cut := writtenByWords(longest()), writtenByWords(longest())[:2000]
	for range 8 {
		go func() {
			right := true
			for range 200 {
				entries, errno := tree.Parse(good)
				right = right && errno == api.OK && slices.Equal(entries, longest())
				entries, errno = tree.Parse(cut)
				right = right && errno == api.ErrTree && len(entries) == 0
			}
			answers <- right
		}()
	}
	for range 8 {
		if !<-answers {
			t.Error("another answer, with many calls at once")
		}
	}
}
