package tree_test

import (
	"math"
	"slices"
	"strings"
	"testing"

	"freight/api"
)

func TestP7_2_HowMany(t *testing.T) {
	names := numbered(100, 3)
	for n := range names {
		if n <= 32 {
			wantEncoded(t, files(names[:n]...), writtenByWords(files(names[:n]...)))
		} else {
			wantNotEncoded(t, "too many", files(names[:n]...))
		}
	}
	wantNotEncoded(t, "too many by far", make([]api.Entry, 100000))
}

func TestP7_2_Kinds(t *testing.T) {
	for _, kind := range []int{1, 2, 3} {
		entry := api.Entry{Name: "a", Kind: kind, ID: idOf(9)}
		wantEncoded(t, []api.Entry{entry}, []byte("T\x01"+string([]byte{byte(kind)})+"\x01a"+row(9)))
	}
	// Those among them that are one of the kinds in their lowest byte.
	for _, kind := range []int{0, 4, 5, 84, 127, 128, 255, 256, 257, 258, 259, 1<<32 + 1, -1, -2, -3, -255, -253, -256, math.MaxInt, math.MinInt, math.MinInt + 1} {
		for at := range 3 {
			entries := files("a", "b", "c")
			entries[at].Kind = kind
			wantNotEncoded(t, "kind", entries)
		}
	}
}

func TestP7_2_Names(t *testing.T) {
	for _, name := range []string{"", ".", "..", "a/b", "/", "\x00", "a\x1f", "\x7f", "\xc3", "\xed\xa0\x80", "\xff", strings.Repeat("n", 33), strings.Repeat("n", 1000)} {
		wantNotEncoded(t, "alone", files(name))
		wantNotEncoded(t, "last", files("\x20", name))
		entries := files(name, "~")
		wantNotEncoded(t, "first", entries)
		// At its place in the order, so that only the name offends.
		entries = files(name, "\x20", "-", "0", "\U0010ffff")
		slices.SortFunc(entries, func(a, b api.Entry) int { return strings.Compare(a.Name, b.Name) })
		wantNotEncoded(t, "in order", entries)
	}
	for _, name := range []string{" ", "..a", "...", "a b", "\u00e9", "\ufffd", "\U0010ffff", strings.Repeat("n", 32)} {
		wantEncoded(t, files(name), writtenByWords(files(name)))
	}
}

func TestP7_2_Order(t *testing.T) {
	long := strings.Repeat("n", 31)
	for _, pair := range [][2]string{
		{"a", "b"}, {"a", "aa"}, {"a", "a-"}, {"a-", "aa"}, {"a.b", "aa"}, {"A", "a"}, {"Z", "a"}, {"10", "9"}, {" ", "a"}, {"...", "a"},
		{long + "m", long + "n"}, {long, long + "n"},
		// At a byte above 127: as bytes are, not as signed ones nor as other codes of characters.
		{"z", "\u00e9"}, {"~", "\u0080"}, {"az", "a\u00e9"}, {"\u00e9", "\u00ea"}, {"\u00ff", "\u0100"}, {"\u07ff", "\u0800"}, {"\uffff", "\U00010000"}, {"\ufffd", "\U0001f4e6"}, {"e\u0301", "\u00e9"}, {"a", "a\u00e9"},
	} {
		rising := files(pair[0], pair[1])
		wantEncoded(t, rising, writtenByWords(rising))
		wantNotEncoded(t, "falling", files(pair[1], pair[0]))
		wantNotEncoded(t, "like names", files(pair[0], pair[0]))
		wantNotEncoded(t, "like names behind another", files(pair[0], pair[1], pair[1]))
		wantNotEncoded(t, "falling behind rising", files(pair[0], pair[1], pair[0]))
	}
}

func TestP7_2_OrderOfEachPairOfNeighbours(t *testing.T) {
	names := numbered(32, 2)
	for i := range len(names) - 1 {
		turned := slices.Clone(names)
		turned[i], turned[i+1] = turned[i+1], turned[i]
		wantNotEncoded(t, "turned", files(turned...))
		turned = slices.Clone(names)
		turned[i+1] = turned[i]
		wantNotEncoded(t, "twice", files(turned...))
	}
}

func TestP7_2_LikeNamesOfUnlikeEntries(t *testing.T) {
	wantNotEncoded(t, "kind", []api.Entry{{Name: "a", Kind: 1}, {Name: "a", Kind: 2}})
	wantNotEncoded(t, "id", []api.Entry{{Name: "a", Kind: 1, ID: idOf(1)}, {Name: "a", Kind: 1, ID: idOf(2)}})
}

// Neither kinds nor ids have a say in the order.
func TestP7_2_OnlyNamesAreInOrder(t *testing.T) {
	entries := []api.Entry{{Name: "a", Kind: 3, ID: idOf(255)}, {Name: "b", Kind: 1}, {Name: "c", Kind: 2, ID: idOf(255)}, {Name: "d", Kind: 1, ID: idOf(255)}}
	wantEncoded(t, entries, writtenByWords(entries))
}

func TestP7_2_AnyID(t *testing.T) {
	for b := range 256 {
		wantEncoded(t, []api.Entry{{Name: "a", Kind: 3, ID: idOf(byte(b))}}, []byte("T\x01\x03\x01a"+row(byte(b))))
	}
	r := noise()
	for range 200 {
		id := noiseID(r)
		wantEncoded(t, []api.Entry{{Name: "a", Kind: 2, ID: id}}, []byte("T\x01\x02\x01a"+string(id[:])))
	}
}

func TestP7_3_Bytes(t *testing.T) {
	wantEncoded(t, nil, []byte("T\x00"))
	wantEncoded(t, []api.Entry{{Name: "bin", Kind: 3, ID: idOf(1)}, {Name: "run me", Kind: 2, ID: idOf(2)}, {Name: "\u00e9", Kind: 1, ID: idOf(3)}},
		[]byte("T\x03"+"\x03\x03bin"+row(1)+"\x02\x06run me"+row(2)+"\x01\x02\xc3\xa9"+row(3)))
	wantEncoded(t, longest(), writtenByWords(longest()))
}

func TestP7_3_AnyTree(t *testing.T) {
	r := noise()
	for range 3000 {
		entries := noiseTree(r)
		wantEncoded(t, entries, writtenByWords(entries))
	}
}

// Trees of which one thing was changed, which leaves a tree or not.
func TestP7_3_NearlyTrees(t *testing.T) {
	r := noise()
	no := 0
	for range 5000 {
		entries := append(noiseTree(r), file(noiseName(r)))
		at := r.IntN(len(entries))
		switch r.IntN(4) {
		case 0:
			entries[at].Kind = r.IntN(7) - 1
		case 1:
			name := []byte(entries[at].Name)
			name[r.IntN(len(name))] = byte(r.Uint32())
			entries[at].Name = string(name)
		case 2:
			other := r.IntN(len(entries))
			entries[at].Name, entries[other].Name = entries[other].Name, entries[at].Name
		}
		if areTreeByWords(entries) {
			wantEncoded(t, entries, writtenByWords(entries))
		} else {
			wantNotEncoded(t, "nearly", entries)
			no++
		}
	}
	if no < 500 || no > 4500 {
		t.Errorf("%d of 5000 were no trees", no)
	}
}

func TestW5_NilAndEmptyAreTheSame(t *testing.T) {
	for _, none := range [][]api.Entry{nil, {}, make([]api.Entry, 0, 5)} {
		wantEncoded(t, none, []byte{84, 0})
	}
	for _, none := range [][]byte{nil, {}, make([]byte, 0, 5)} {
		wantNotParsed(t, "none", none)
	}
}
