package reach_test

import (
	"testing"

	"freight/api"
	"freight/reach"
)

// A root alone, a tree of no entries.
func TestP9_2_RootAlone(t *testing.T) {
	for _, id := range []api.ID{{}, {31: 1}, letter("a"), {0: 255, 31: 255}} {
		wantNeed(t, reach.Map{id: treeOf()}, rootsOf(id), []api.ID{id})
		wantNoNeed(t, reach.Map{}, rootsOf(id), api.ErrMissing, id)
		wantNoNeed(t, reach.Map{id: nil}, rootsOf(id), api.ErrNoTree, id)
		wantNoNeed(t, reach.Map{id: written(entry(api.KindFolder, id))}, rootsOf(id), api.ErrDeep, id)
	}
}

// Entries of each kind are needed, but only folders are opened.
func TestP9_2_OnlyFoldersAreOpened(t *testing.T) {
	m := reach.Map{letter("a"): treeOf("b/", "c*", "d"), letter("b"): treeOf("e"), letter("c"): treeOf("x/"), letter("d"): treeOf("y"), letter("e"): treeOf("z")}
	wantNeed(t, m, roots("a"), letters("abcde"))
	wantNeed(t, with(m, letter("d"), []byte("no tree")), roots("a"), letters("abcde"))
	wantNoNeed(t, with(m, letter("b"), []byte("no tree")), roots("a"), api.ErrNoTree, letter("b"))
}

// What tree.Parse does not take is no tree, however near it comes.
func TestP9_2_NoTree(t *testing.T) {
	good := treeOf("b", "c/")
	for what, data := range map[string][]byte{
		"no bytes":        {},
		"a byte too few":  good[:len(good)-1],
		"a byte too many": append(treeOf("b", "c/"), 0),
		"another mark":    append([]byte{85}, good[1:]...),
		"long":            make([]byte, 5000),
		"one entry more":  append([]byte{84, 3}, good[2:]...),
	} {
		m := reach.Map{letter("a"): data, letter("b"): {1}, letter("c"): treeOf()}
		t.Run(what, func(t *testing.T) {
			wantNoNeed(t, m, roots("a"), api.ErrNoTree, letter("a"))
			wantLacks(t, without(m, letter("c")), roots("a"), nil)
			wantNoNeed(t, with(m, letter("0"), treeOf("a/")), roots("0"), api.ErrNoTree, letter("a"))
			wantNeed(t, with(m, letter("0"), treeOf("a")), roots("0"), letters("0a"))
		})
	}
}

// Nothing asks for a digest, or how many bytes there are.
func TestP9_2_AnyBytesUnderAnyID(t *testing.T) {
	long := make([]byte, 3*api.MaxBlob)
	m := reach.Map{letter("a"): treeOf("b", "c", "d/"), letter("b"): long, letter("c"): treeOf(), letter("d"): treeOf()}
	wantNeed(t, m, roots("a"), letters("abcd"))
}

// The four refusals, where all that stand behind one hold too.
func TestP9_2_OrderOfRefusals(t *testing.T) {
	m := chain(7)
	m[letter("a")] = treeOf("b/", "m", "n/", "o", "z")
	m[letter("n")] = []byte("no tree")
	m[letter("o")] = nil
	wantBlind(t, blind(m, api.ErrOff, letter("z")), roots("a"), api.ErrOff, letter("z"))
	wantNoNeed(t, m, roots("a"), api.ErrNoTree, letter("n"))
	m[letter("n")] = treeOf()
	wantNoNeed(t, m, roots("a"), api.ErrDeep, letter("g"))
	m[letter("f")] = treeOf()
	wantNoNeed(t, m, roots("a"), api.ErrMissing, letter("m"))
	m[letter("m")] = nil
	wantNoNeed(t, m, roots("a"), api.ErrMissing, letter("z"))
	m[letter("z")] = nil
	wantNeed(t, m, roots("a"), letters("abcdefmnoz"))
}

// Each two of them, the one behind said of a lesser id.
func TestP9_2_AheadThoughTheIDIsGreater(t *testing.T) {
	noTree := with(example(), letter("x"), []byte("bad"))
	wantNoNeed(t, with(noTree, letter("0"), treeOf("0/")), roots("0x"), api.ErrNoTree, letter("x"))
	wantNoNeed(t, noTree, roots("0x"), api.ErrNoTree, letter("x"))
	wantNoNeed(t, with(example(), letter("x"), treeOf("x/")), roots("0x"), api.ErrDeep, letter("x"))
	wantBlind(t, blind(with(noTree, letter("0"), treeOf("0/")), api.ErrOff, letter("y")), roots("01xy"), api.ErrOff, letter("y"))
}

// Of several the least, wherever it lies.
func TestP9_2_LeastNoTree(t *testing.T) {
	m := reach.Map{letter("r"): treeOf("k/", "d/", "s/"), letter("k"): []byte("bad"), letter("d"): treeOf("e/"), letter("e"): nil, letter("s"): nil}
	wantNoNeed(t, m, roots("r"), api.ErrNoTree, letter("e"))
	wantNoNeed(t, with(m, letter("z"), nil), roots("zr"), api.ErrNoTree, letter("e"))
	wantNoNeed(t, with(m, letter("a"), nil), roots("ar"), api.ErrNoTree, letter("a"))
}

func TestP9_2_LeastTooDeep(t *testing.T) {
	m := chain(7)
	m[letter("f")] = treeOf("w/", "k/", "b", "v/")
	m[letter("k")], m[letter("v")], m[letter("w")] = treeOf("a/"), nil, treeOf()
	wantNoNeed(t, m, roots("a"), api.ErrDeep, letter("k"))
	wantNoNeed(t, without(m, letters("kv")...), roots("a"), api.ErrDeep, letter("k"))
}

func TestP9_2_LeastMissing(t *testing.T) {
	m := reach.Map{letter("r"): treeOf("k/", "d", "s*"), letter("k"): treeOf("c", "x")}
	wantNoNeed(t, m, roots("r"), api.ErrMissing, letter("c"))
	wantNoNeed(t, m, roots("rb"), api.ErrMissing, letter("b"))
	wantNoNeed(t, with(m, letter("c"), nil), roots("r"), api.ErrMissing, letter("d"))
}

// Ids are in order as their bytes are, the first one first, each from 0 to 255.
func TestP9_2_OrderOfIDs(t *testing.T) {
	ids := []api.ID{{}, {31: 1}, {31: 127}, {31: 128}, {31: 255}, {30: 1}, {1: 128}, {0: 1}, {0: 1, 31: 9}, {0: 127, 1: 255}, {0: 128}, {0: 255}}
	for i := range ids {
		m := reach.Map{}
		var falling []api.ID
		for _, id := range ids[i:] {
			m[id] = treeOf()
			falling = append([]api.ID{id}, falling...)
		}
		wantNeed(t, m, rootsOf(falling...), ids[i:])
		wantNoNeed(t, nil, rootsOf(falling...), api.ErrMissing, ids[i])
		wantLacks(t, nil, rootsOf(falling...), ids[i:])
	}
}

// From 1 to MaxDepth trees, each a folder of the one ahead, and more.
func TestP9_2_Chains(t *testing.T) {
	all := "abcdefghijkl"
	for n := 1; n <= 12; n++ {
		if n <= 6 {
			wantNeed(t, chain(n), roots("a"), letters(all[:n]))
		} else {
			wantNoNeed(t, chain(n), roots("a"), api.ErrDeep, letter("g"))
			wantLacks(t, chain(n), roots("a"), nil)
		}
		wantNeed(t, chain(n), roots(all[max(0, n-6):n]), letters(all[max(0, n-6):n]))
	}
}

// What lies too deep is refused whatever it is: a tree, no tree, damage, nothing.
func TestP9_2_WhatLiesTooDeep(t *testing.T) {
	g := letter("g")
	for _, data := range [][]byte{treeOf(), treeOf("a/"), nil, []byte("no tree")} {
		wantNoNeed(t, with(chain(7), g, data), roots("a"), api.ErrDeep, g)
	}
	for _, err := range []error{api.ErrNoBlob, api.ErrDamage} {
		wantNoNeed(t, blind(chain(7), err, g), roots("a"), api.ErrDeep, g)
		wantLacks(t, blind(chain(7), err, g), roots("a"), letters("g"))
	}
	wantBlind(t, blind(chain(7), api.ErrOff, g), roots("a"), api.ErrOff, g)
}

// The last tree that is opened may have files, and these may be anything.
func TestP9_2_FilesOfTheDeepest(t *testing.T) {
	m := with(chain(6), letter("f"), treeOf("g", "h*", "a"))
	m[letter("g")], m[letter("h")] = treeOf("x/"), nil
	wantNeed(t, m, roots("a"), letters("abcdefgh"))
	wantNoNeed(t, without(m, letter("h")), roots("a"), api.ErrMissing, letter("h"))
}

// A circle lies at every depth from there on, whoever leads to it.
func TestP9_2_Circles(t *testing.T) {
	for _, c := range []struct {
		m    reach.Map
		from string
		deep string
	}{
		{reach.Map{letter("f"): treeOf("f/", "f", "f/")}, "f", "f"},
		{reach.Map{letter("a"): treeOf("b/"), letter("b"): treeOf("a/")}, "a", "a"},
		{reach.Map{letter("a"): treeOf("b/"), letter("b"): treeOf("a/")}, "b", "b"},
		{reach.Map{letter("a"): treeOf("b/"), letter("b"): treeOf("a/")}, "ba", "a"},
		{reach.Map{letter("a"): treeOf("b/"), letter("b"): treeOf("c/"), letter("c"): treeOf("a/")}, "a", "a"},
		{reach.Map{letter("a"): treeOf("b/"), letter("b"): treeOf("c/"), letter("c"): treeOf("b/")}, "a", "c"},
		{with(example(), letter("d"), treeOf("d/")), "d", "d"},
	} {
		wantNoNeed(t, c.m, roots(c.from), api.ErrDeep, letter(c.deep))
		wantLacks(t, c.m, roots(c.from), nil)
	}
	wantNeed(t, reach.Map{letter("f"): treeOf("f", "f*")}, roots("f"), letters("f"))
}

// b lies at the depths 2 and 3, and what it leads to at 6 and 7: it is opened
// at each.
func TestP9_2_SeveralDepths(t *testing.T) {
	m := chain(6)
	wantNeed(t, m, roots("abf"), letters("abcdef"))
	m[letter("0")] = treeOf("a/")
	wantNeed(t, m, roots("a"), letters("abcdef"))
	wantNoNeed(t, m, roots("0a"), api.ErrDeep, letter("f"))
	m[letter("0")] = treeOf("a/", "b/")
	wantNoNeed(t, m, roots("0"), api.ErrDeep, letter("f"))
	m[letter("0")] = treeOf("b/", "c/", "d/")
	wantNeed(t, m, roots("0"), letters("0bcdef"))
}

// Named as a file in one place and as a folder in another.
func TestP9_2_FileAndFolder(t *testing.T) {
	for _, names := range [][]string{{"b", "b/"}, {"b/", "b"}, {"b*", "b/", "b"}} {
		m := reach.Map{letter("a"): treeOf(names...), letter("b"): treeOf("c"), letter("c"): nil}
		wantNeed(t, m, roots("a"), letters("abc"))
		wantNoNeed(t, with(m, letter("b"), nil), roots("a"), api.ErrNoTree, letter("b"))
	}
	m := reach.Map{letter("a"): treeOf("b", "d/"), letter("b"): treeOf("c"), letter("c"): nil, letter("d"): treeOf("b/")}
	wantNeed(t, m, roots("a"), letters("abcd"))
	wantNoNeed(t, with(m, letter("b"), nil), roots("a"), api.ErrNoTree, letter("b"))
	m[letter("d")] = treeOf("b")
	wantNeed(t, m, roots("a"), letters("abd"))
	wantNeed(t, m, roots("ab"), letters("abcd"))
}

// As a file in one place, and too deep in another.
func TestP9_2_FileAndTooDeep(t *testing.T) {
	m := with(chain(7), letter("a"), treeOf("b/", "g"))
	wantNoNeed(t, m, roots("a"), api.ErrDeep, letter("g"))
	wantNoNeed(t, with(m, letter("g"), []byte("no tree")), roots("a"), api.ErrDeep, letter("g"))
	wantNoNeed(t, with(m, letter("g"), []byte("no tree")), roots("ag"), api.ErrNoTree, letter("g"))
}

// W5: no results, as a nil list and as an empty one.
func TestP9_2_NoResults(t *testing.T) {
	for _, s := range []reach.Source{nil, reach.Map(nil), example(), blind(nil, api.ErrOff, letters("abc")...)} {
		for _, results := range [][]api.Result{nil, {}, make([]api.Result, 0, 5)} {
			wantNeed(t, s, results, nil)
			wantLacks(t, s, results, nil)
		}
	}
}

// The greatest tree, of each kind.
func TestP9_2_FullTree(t *testing.T) {
	for kind := api.KindFile; kind <= api.KindFolder; kind++ {
		m := reach.Map{}
		need := []api.ID{{1}}
		var entries []api.Entry
		for i := range api.MaxEntries {
			id := api.ID{2, byte(i)}
			m[id] = treeOf()
			need = append(need, id)
			entries = append([]api.Entry{entry(kind, id)}, entries...)
		}
		m[need[0]] = written(entries...)
		wantNeed(t, m, rootsOf(need[0]), need)
		for _, id := range need {
			wantNoNeed(t, without(m, id), rootsOf(need[0]), api.ErrMissing, id)
		}
	}
}
