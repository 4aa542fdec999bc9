package tree_test

import (
	"bytes"
	"slices"
	"testing"

	"freight/api"
	"freight/tree"
)

func TestP7_6_ThereAndBack(t *testing.T) {
	for _, entries := range some() {
		wantParsed(t, mustEncode(t, entries), entries)
	}
	r := noise()
	for range 3000 {
		entries := noiseTree(r)
		wantParsed(t, mustEncode(t, entries), entries)
	}
}

// wantBack asks for the same bytes again of whatever is read as a tree.
func wantBack(t *testing.T, data []byte) bool {
	t.Helper()
	entries, errno := tree.Parse(data)
	if errno == api.OK {
		wantEncoded(t, entries, data)
	}
	return errno == api.OK
}

func TestP7_6_BackAndThere(t *testing.T) {
	r := noise()
	trees := 0
	for range 20000 {
		if wantBack(t, bent(r)) {
			trees++
		}
	}
	if trees < 5000 || trees > 19000 {
		t.Errorf("%d of 20000 were trees", trees)
	}
}

// small are all trees of at most three entries, of some names, kinds and ids.
func small() [][]api.Entry {
	trees := [][]api.Entry{nil}
	for _, name := range []string{"a", "a-", "aa", "\u00e9"} {
		for _, before := range slices.Clone(trees) {
			if len(before) == 3 {
				continue
			}
			for kind := 1; kind <= 3; kind++ {
				for _, b := range []byte{0, 1, 'a'} {
					entry := api.Entry{Name: name, Kind: kind, ID: idOf(b)}
					trees = append(trees, append(slices.Clone(before), entry))
				}
			}
		}
	}
	return trees
}

func TestP7_6_UnlikeTreesHaveUnlikeBytes(t *testing.T) {
	seen := map[string][]api.Entry{}
	for _, entries := range small() {
		data := string(mustEncode(t, entries))
		if other, is := seen[data]; is {
			t.Errorf("%v and %v are both % x", entries, other, data)
		}
		seen[data] = entries
	}
}

func TestP7_7_NoBeginningOfAnother(t *testing.T) {
	var all [][]byte
	for _, entries := range small() {
		all = append(all, mustEncode(t, entries))
	}
	r := noise()
	for range 2000 {
		entries := noiseTree(r)
		for n := range len(entries) + 1 {
			all = append(all, mustEncode(t, entries[:n]))
		}
	}
	slices.SortFunc(all, bytes.Compare)
	all = slices.CompactFunc(all, bytes.Equal)
	// What is the beginning of another is that of the next one, too.
	for i := range len(all) - 1 {
		if bytes.HasPrefix(all[i+1], all[i]) {
			t.Errorf("% x is the beginning of % x", all[i], all[i+1])
		}
	}
}

func TestP7_7_TheLongestTree(t *testing.T) {
	data := mustEncode(t, longest())
	if len(data) != 2114 || len(data) >= api.MaxBlob {
		t.Errorf("the longest tree has %d bytes", len(data))
	}
	wantParsed(t, data, longest())
	r := noise()
	for range 1000 {
		if n := len(mustEncode(t, noiseTree(r))); n > 2114 {
			t.Errorf("a tree of %d bytes", n)
		}
	}
}

func FuzzAnyBytes(f *testing.F) {
	for _, entries := range some() {
		f.Add(writtenByWords(entries))
	}
	f.Add([]byte("T\x80\x00"))
	f.Add([]byte("T\xff\xff\xff\xff\x07\x01\x01a" + row(7)))
	f.Fuzz(func(t *testing.T, data []byte) {
		wantAsTheWords(t, data)
		wantBack(t, data)
	})
}
