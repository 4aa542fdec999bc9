package reach_test

import (
	"testing"

	"freight/api"
	"freight/reach"
)

// Round by round, each by rising ids; then all others, by rising ids.
func TestP9_2_OrderOfAsking(t *testing.T) {
	m := reach.Map{
		letter("p"): treeOf("z/", "a", "m/"), letter("q"): treeOf("n/", "b"),
		letter("z"): treeOf("k/", "c*"), letter("m"): treeOf("o"), letter("n"): treeOf("d/"),
		letter("k"): treeOf(), letter("d"): treeOf("p"),
	}
	wantAsked(t, blind(m, nil), roots("qpq"), letters("pq"+"mnz"+"dk"+"abco"))
	wantAsked(t, blind(m, nil), roots("q"), letters("q"+"n"+"d"+"bp"))
}

// What was asked for in an earlier round is not asked for again, though it
// lies in a later one too, or is a file there.
func TestP9_2_AskedOnce(t *testing.T) {
	m := reach.Map{letter("a"): treeOf("b/", "c/", "d"), letter("b"): treeOf("d/", "c/", "a"), letter("c"): treeOf("b", "d"), letter("d"): treeOf("c", "c")}
	wantAsked(t, blind(m, nil), roots("aa"), letters("abcd"))
	wantAsked(t, blind(m, nil), roots("ba"), letters("abcd"))
	wantAsked(t, blind(m, nil), roots("d"), letters("dc"))
	wantAsked(t, blind(reach.Map{letter("f"): treeOf("f/")}, nil), roots("ff"), letters("f"))
}

// A file of an early round that is a folder in a later one is asked for there.
func TestP9_2_FolderAheadOfFiles(t *testing.T) {
	m := reach.Map{letter("r"): treeOf("a", "x", "s/"), letter("s"): treeOf("t/"), letter("t"): treeOf("x/"), letter("x"): treeOf("b")}
	wantAsked(t, blind(m, nil), roots("r"), letters("r"+"s"+"t"+"x"+"ab"))
}

// What lies at the depth MaxDepth + 1 is asked for with the others, and is not
// opened.
func TestP9_2_TooDeepIsAskedLast(t *testing.T) {
	m := with(chain(7), letter("a"), treeOf("b/", "z", "0"))
	m[letter("g")] = treeOf("y/")
	wantAsked(t, blind(m, nil), roots("a"), letters("abcdef"+"0gz"))
	m[letter("f")] = treeOf("g/", "c/", "x/")
	wantAsked(t, blind(m, nil), roots("a"), letters("abcdef"+"0gxz"))
}

// What is wrong ends nothing, but the source that cannot look.
func TestP9_2_AskedToTheEnd(t *testing.T) {
	m := reach.Map{letter("a"): treeOf("b/", "c/", "d"), letter("b"): []byte("bad"), letter("c"): treeOf("c/", "e")}
	wantAsked(t, blind(m, nil), roots("ax"), letters("ax"+"bc"+"de"))
	wantAsked(t, blind(m, api.ErrDamage, letters("xde")...), roots("ax"), letters("ax"+"bc"+"de"))
}

func TestP9_2_CannotLookEndsTheCall(t *testing.T) {
	m := reach.Map{letter("p"): treeOf("z/", "a", "m/"), letter("q"): treeOf("n/"), letter("z"): treeOf("k/", "c"), letter("m"): treeOf("o"), letter("n"): treeOf("d"), letter("k"): treeOf()}
	row := "pq" + "mnz" + "k" + "acdo"
	wantAsked(t, blind(m, nil), roots("qp"), letters(row))
	for i := range len(row) {
		l := blind(m, api.ErrOff, letter(row[i:]))
		wantAsked(t, l, roots("qp"), letters(row[:i+1]))
		wantBlind(t, l, roots("qp"), api.ErrOff, letter(row[i:]))
	}
}

// The first one that is asked for, not the least one.
func TestP9_2_FirstThatCannotBeLookedAt(t *testing.T) {
	l := blind(example(), nil)
	l.errors = map[api.ID]error{letter("b"): api.ErrBlock, letter("a"): api.ErrOff, letter("c"): api.ErrSum, letter("d"): api.ErrArg}
	wantBlind(t, l, roots("a"), api.ErrOff, letter("a"))
	delete(l.errors, letter("a"))
	wantBlind(t, l, roots("a"), api.ErrBlock, letter("b"))
	l.blobs = with(l.blobs, letter("a"), treeOf("d/", "c/", "b"))
	wantBlind(t, l, roots("a"), api.ErrSum, letter("c"))
	wantAsked(t, l, roots("a"), letters("ac"))
	delete(l.errors, letter("c"))
	wantBlind(t, l, roots("a"), api.ErrArg, letter("d"))
	wantAsked(t, l, roots("a"), letters("acd"))
}

// It hangs on nothing of a map's order: each time the same is asked for.
func TestW2_SameEachTime(t *testing.T) {
	ids := pool(40)
	r := noise()
	l := draw(r.IntN, ids)
	results := rootsOf(ids...)
	want := inWords(l, results).asked()
	for range 50 {
		wantAsked(t, l, results, want)
	}
}
