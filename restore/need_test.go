package restore_test

import (
	"fmt"
	"slices"
	"testing"

	"freight/api"
)

// broken is a bundle some of whose results have no whole need. No two blobs of it
// are in one block at size 16 but at their ends.
func broken(width int) (goods, map[byte]said) {
	id := func(blob string) api.ID { return idOf(width, blob) }
	deep, fits := chain(width, 7, crate), chain(width, 6, pallet)
	overLack := []string{treeOf(aFolder(id("not there 4")))}
	for len(overLack) < 6 {
		overLack = append(overLack, treeOf(aFolder(id(overLack[len(overLack)-1]))))
	}
	good, noTree := filesTree(width, crate, pallet), treeOf(aFile(id(crate)), aFolder(id(pallet)))
	lack, noFolder := filesTree(width, pallet, "not there 1"), treeOf(aFolder(id("not there 3")), aRun(id("not there 1")))
	outer := treeOf(aFolder(id(noTree)), aFolder(id(lack)), aFile(id("not there 5")))
	blobs := slices.Concat([]string{crate, pallet, good, noTree, lack, noFolder, outer}, deep, fits, overLack)
	slices.Sort(blobs)
	g := goods{width, slices.Compact(blobs), []api.Result{
		res(1, id(good), 0),
		res(2, id(crate), 0),
		res(3, id(noTree), 0),
		res(4, id(deep[6]), 0),
		res(5, id(lack), 0),
		res(6, id("not there 2"), 0),
		res(7, id(noFolder), 0),
		res(8, id(fits[5]), 0),
		res(9, id(overLack[5]), 0),
		res(10, id(outer), 0),
	}}
	return g, map[byte]said{
		1:  {},
		2:  {api.ErrNoTree, id(crate)},
		3:  {api.ErrNoTree, id(pallet)},
		4:  {api.ErrDeep, id(deep[0])},
		5:  {api.ErrMissing, id("not there 1")},
		6:  {api.ErrMissing, id("not there 2")},
		7:  {api.ErrMissing, rising(id("not there 1"), id("not there 3"))[0]},
		8:  {},
		9:  {api.ErrDeep, id("not there 4")},
		10: {api.ErrNoTree, id(pallet)},
	}
}

// A need with a tree that is none, with one that is too deep, that lacks a blob.
func TestP17_2_NotWhole(t *testing.T) {
	g, want := broken(32)
	for _, policy := range policies() {
		for action, x := range want {
			s := shelved(t, g, nil, nil, of("c.a.table", tableForm([]api.Result{res(action, api.ID{9}, 1)})))
			if x.code == api.OK {
				continue
			}
			s.wantRefused(t, fmt.Sprint("action ", action), ask{"f.x", acts(action), policy}, x.code, x.id)
			s.wantOver(t, "refused")
		}
	}
	for _, action := range acts(1, 8) {
		s := shelved(t, g, nil, nil)
		s.want(t, "whole", ask{"f.x", []api.ID{action}, api.Fail}, api.OK, api.ID{})
		s.wantOver(t, "whole")
	}
}

// All sets of them: trees that are none stand first, then what is too deep, then
// what lacks; the least id of its kind is told.
func TestP17_2_NotWholeTogether(t *testing.T) {
	g, want := broken(32)
	rank := map[api.Errno]int{api.ErrNoTree: 1, api.ErrDeep: 2, api.ErrMissing: 3}
	s := shelved(t, g, nil, nil)
	for set := 1; set < 1<<len(g.results); set++ {
		picked := some(g.results, set)
		first := said{}
		for _, r := range picked {
			x := want[r.Action[0]]
			if x.code == api.OK {
				continue
			}
			isFirst := first.code == api.OK || rank[x.code] < rank[first.code]
			if isFirst || x.code == first.code && string(x.id[:]) < string(first.id[:]) {
				first = x
			}
		}
		if first.code != api.OK {
			s.wantRefused(t, fmt.Sprint("set ", set), ask{"f.x", actionsOf(picked...), api.Keep}, first.code, first.id)
		}
	}
}

// What the cache has does not help: the need is that of the bundle.
func TestP17_2_TheCacheHasIt(t *testing.T) {
	g, want := broken(32)
	held := []string{"not there 1", "not there 2", "not there 3", "not there 5"}
	for _, action := range []byte{5, 6, 7} {
		s := shelved(t, g, held, nil)
		s.wantRefused(t, "held", ask{"f.x", acts(action), api.Keep}, api.ErrMissing, want[action].id)
	}
}

// A folder that leads to itself, in a narrow width, and an id whose bytes behind
// the width are not noughts.
func TestP17_2_Narrow(t *testing.T) {
	var own string
	for first := 0; own == "" && first < 256; first++ {
		for k := range 300 {
			one := treeOf(aFolder(api.ID{byte(first)}), aFile(api.ID{byte(first), 31: byte(k)}))
			if idOf(1, one) == (api.ID{byte(first)}) {
				own = one
				break
			}
		}
	}
	g := goods{1, []string{own}, []api.Result{res(1, idOf(1, own), 0)}}
	s := shelved(t, g, nil, nil)
	s.wantRefused(t, "a circle", ask{"f.x", acts(1), api.Keep}, api.ErrDeep, idOf(1, own))

	wide := idOf(1, crate)
	wide[31] = 1
	root := treeOf(aFile(wide), aFile(idOf(1, crate)))
	g = goods{1, []string{crate, root}, []api.Result{res(1, idOf(1, root), 0), res(2, api.ID{idOf(1, root)[0], 1}, 0)}}
	s = shelved(t, g, nil, nil)
	s.wantRefused(t, "a wide id", ask{"f.x", acts(1), api.Keep}, api.ErrMissing, wide)
	s.wantRefused(t, "a wide root", ask{"f.x", acts(2), api.Keep}, api.ErrMissing, g.results[1].Root)
}

// A block is spoilt under one blob: whoever asks for that blob is told so with its
// id, whether it is a tree or not, ahead of all that is not whole; all others go on.
func TestP17_2_Spoilt(t *testing.T) {
	g, _ := broken(32)
	data := g.bundle(16)
	face := faceOf(data, 32)
	met := map[said]int{}
	for _, blob := range g.blobs {
		if len(ownBlocks(face, g.id(blob))) == 0 {
			continue
		}
		bad := spoilt(data, 32, g.id(blob))
		for set := 1; set < 1<<len(g.results); set += 1 + set/40 {
			picked := some(g.results, set)
			asked := follow(packed{words{mustLoad(t, api.MaxRoom, of("f.x", bad)), "a", 32}, "f.x", face}.get, picked)
			s := stored(t, 32, nil, nil, of("f.x", bad))
			got := s.wantAsTheWordsSay(t, "spoilt", ask{"f.x", actionsOf(picked...), api.Keep})
			met[got]++
			if slices.Contains(asked.asked, g.id(blob)) != (got == said{api.ErrBlock, g.id(blob)}) {
				t.Errorf("set %d: %v", set, got)
			}
		}
	}
	for _, blob := range []string{pallet, g.blobs[3], g.blobs[9]} {
		if met[said{api.ErrBlock, g.id(blob)}] == 0 {
			t.Errorf("%.10q is not met: %v", blob, met)
		}
	}
}

// Two blocks are spoilt: the id is the one that was asked for first, not the least.
func TestP17_2_TheFirstThatIsAskedFor(t *testing.T) {
	plain := goods{width: 32, blobs: strangers(32, 40)}
	for k := range plain.blobs {
		plain.blobs[k] += times(60, ".")
	}
	low, next := plain.inOrder()[0], plain.inOrder()[1]
	inner := filesTree(32, low)
	outer := treeOf(aFolder(idOf(32, inner)), aFile(idOf(32, next)))
	g := goods{32, []string{low, next, inner, outer}, []api.Result{res(1, idOf(32, outer), 0)}}
	data := g.bundle(16)
	order := []string{outer, inner, low, next}
	if g.inOrder()[0] != low {
		t.Fatal("the plain blob is not the least")
	}
	for first := range order {
		bad := data
		for _, blob := range order[first:] {
			bad = spoilt(bad, 32, g.id(blob))
		}
		s := stored(t, 32, nil, nil, of("f.x", bad))
		s.wantRefused(t, fmt.Sprint("from ", first, " on"), ask{"f.x", acts(1), api.Keep}, api.ErrBlock, g.id(order[first]))
	}
}

// A bundle that says of a blob that it has another id than its own: as a tree, as a
// plain blob, as one of no bytes.
func TestP17_2_AnotherID(t *testing.T) {
	for _, blob := range []string{pallet, "", treeOf(), filesTree(32, crate)} {
		said := idOf(32, blob)
		said[31] ^= 1
		root := treeOf(aFile(said), aFile(idOf(32, crate)))
		g := goods{32, []string{blob, root, crate}, []api.Result{res(1, idOf(32, root), 0), res(2, said, 0), res(3, idOf(32, filesTree(32, crate)), 0)}}
		at := slices.Index(g.ids(), idOf(32, blob))
		s := stored(t, 32, nil, nil, of("f.x", withID(g.bundle(16), 32, at)))
		s.wantRefused(t, "a file", ask{"f.x", acts(1), api.Keep}, api.ErrDigest, said)
		s.wantRefused(t, "a root", ask{"f.x", acts(2), api.Keep}, api.ErrDigest, said)
		s.wantRefused(t, "ahead of what lacks", ask{"f.x", acts(3, 1), api.Keep}, api.ErrDigest, said)
		if blob != filesTree(32, crate) {
			s.wantRefused(t, "what lacks", ask{"f.x", acts(3), api.Keep}, api.ErrMissing, g.results[2].Root)
		}
	}
}

// Blobs that nothing needs, results that are not asked for and have no whole need,
// blocks that are spoilt elsewhere: all the same.
func TestP17_2_WhatIsNotRead(t *testing.T) {
	g, want := broken(32)
	extra := strangers(32, 20)
	g.blobs = append(g.blobs, extra...)
	data := g.bundle(16)
	face := faceOf(data, 32)
	for _, action := range []byte{1, 8} {
		if want[action].code != api.OK {
			t.Fatal("it is not whole")
		}
		picked := g.results[action-1 : action]
		need := g.needOf(picked...)
		bad := data
		needed := blocksOf(packed{words{}, "f.x", face}, need)
		for _, b := range face.Blocks {
			if !slices.Contains(needed, api.Span{Name: "f.x", At: b.At, N: b.Packed}) {
				bad = turned(bad, b.At+b.Packed-1)
			}
		}
		if bad == data {
			t.Fatal("all blocks are needed")
		}
		s := stored(t, 32, nil, nil, of("f.x", bad))
		s.want(t, "spoilt elsewhere", ask{"f.x", acts(action), api.Fail}, api.OK, api.ID{})
		s.wantHolds(t, "spoilt elsewhere", g.blobsOf(need), picked)
		s.wantOver(t, "spoilt elsewhere")
	}
}
