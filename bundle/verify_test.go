package bundle_test

import (
	"bytes"
	"fmt"
	"runtime"
	"slices"
	"testing"
	"time"

	"freight/api"
	"freight/bundle"
	"freight/press"
)

func TestP12_6_Good(t *testing.T) {
	for _, width := range widths() {
		results, blobs := stock(width)
		for _, size := range []int{16, 17, 64, 1000, 4096} {
			wantVerify(t, "stock", mustMake(t, width, results, blobs, size), width, api.OK, api.ID{})
			wantVerify(t, "nothing", mustMake(t, width, nil, nil, size), width, api.OK, api.ID{})
		}
	}
	empty := treeOf()
	wantVerify(t, "the empty tree", mustMake(t, 1, actions(32, idOf(1, empty)), [][]byte{empty}, 16), 1, api.OK, api.ID{})
	for n := 1; n <= api.MaxDepth; n++ {
		trees := chain(32, n)
		wantVerify(t, fmt.Sprint("a chain of ", n), mustMake(t, 32, actions(1, idOf(32, trees[0])), trees, 16), 32, api.OK, api.ID{})
	}
}

// As many blobs as there may be, and bytes: two full trees of files.
func TestP12_6_TheGreatest(t *testing.T) {
	blobs := unlike(61, 900)
	var entries []api.Entry
	for i, b := range blobs {
		entries = append(entries, file(fmt.Sprintf("%02d", i), idOf(32, b)))
	}
	one, two := treeOf(entries[:31]...), treeOf(entries[31:]...)
	root := treeOf(folder("one", idOf(32, one)), folder("two", idOf(32, two)))
	all := append(blobs, one, two, root)
	data := mustMake(t, 32, actions(32, idOf(32, root)), all, 16)
	wantVerify(t, "64 blobs", data, 32, api.OK, api.ID{})
	for range 30 {
		if face, err := bundle.Verify(data, 32); err != nil || len(face.Blobs) != 64 {
			t.Fatalf("%s, %v", shown(face), err)
		}
	}
}

// What Parse refuses Verify refuses, and nothing else is told.
func TestP12_6_ParsesError(t *testing.T) {
	for _, w := range wrongs() {
		d := stocked(31, 16)
		w.change(d)
		wantVerify(t, w.what, d.bytes(), 31, w.want, api.ID{})
	}
	data := stocked(31, 16).bytes()
	for _, width := range noWidths() {
		wantVerify(t, "no width", data, width, api.ErrArg, api.ID{})
	}
	wantVerify(t, "another width", data, 30, api.ErrBundle, api.ID{})
	wantVerify(t, "too long", make([]byte, api.MaxFile+1), 32, api.ErrBundleLong, api.ID{})
	wantVerify(t, "no bytes", nil, 32, api.ErrBundle, api.ID{})
}

func TestP12_6_EachByteOfABlockTurned(t *testing.T) {
	data := stocked(31, 16).bytes()
	for k := 6; k < numbersOf(data)[0]; k++ {
		for _, with := range []byte{1, 0x80, 0xff} {
			turned := bytes.Clone(data)
			turned[k] ^= with
			wantVerify(t, fmt.Sprint("byte ", k), turned, 31, api.ErrBlock, api.ID{})
		}
	}
}

func TestP12_6_EachSumOfABlockTurned(t *testing.T) {
	for k := range stocked(31, 16).index {
		for _, bit := range []int{0, 15, 31} {
			d := stocked(31, 16)
			d.index[k].Sum ^= 1 << bit
			wantVerify(t, fmt.Sprint("the sum of block ", k), d.bytes(), 31, api.ErrBlock, api.ID{})
		}
	}
}

// repacked lays other packed bytes in the place of those of a block, with their sum.
func repacked(d *draft, k int, packed []byte) {
	b := d.index[k]
	d.blocks = slices.Concat(d.blocks[:b.At-6], packed, d.blocks[b.At-6+b.Packed:])
	d.index[k].Packed, d.index[k].Sum = len(packed), sumOf(packed)
	for i := k + 1; i < len(d.index); i++ {
		d.index[i].At += len(packed) - b.Packed
	}
}

// Bytes that have their sum, and that do not unpack to what the block has.
func TestP12_6_ABlockThatDoesNotUnpack(t *testing.T) {
	for k, b := range stocked(31, 16).index {
		for what, packed := range map[string][]byte{
			"one byte":              {9},
			"noughts":               make([]byte, b.Raw-1),
			"bytes 255":             times(b.Raw-1, 255),
			"packed of fewer bytes": mustPress(t, times(b.Raw-1, 'q')),
			"packed of more bytes":  mustPress(t, times(b.Raw+1, 'q')),
		} {
			if _, errno := press.Unpack(packed, b.Raw); errno == api.OK || len(packed) >= b.Raw || len(packed) == 0 {
				continue
			}
			d := stocked(31, 16)
			repacked(d, k, packed)
			wantVerify(t, fmt.Sprint("block ", k, ": ", what), d.bytes(), 31, api.ErrBlock, api.ID{})
		}
	}
}

func mustPress(t *testing.T, data []byte) []byte {
	t.Helper()
	packed, errno := press.Pack(data)
	if errno != api.OK {
		t.Fatal(errno)
	}
	return packed
}

// A block that Pack would have packed otherwise is opened: what it unpacks to counts.
func TestP12_6_PackedOtherwise(t *testing.T) {
	blob := times(16, 'q')
	root := treeOf(file("q", idOf(31, blob)))
	d := draftOf(31, actions(1, idOf(31, root)), [][]byte{blob, root}, 4096)
	stored := slices.Concat(root, blob)
	if d.places[0].N == 16 {
		stored = slices.Concat(blob, root)
	}
	if d.index[0].Packed == len(stored) {
		t.Fatal("the row does not pack")
	}
	repacked(d, 0, stored)
	wantVerify(t, "stored, though it packs", d.bytes(), 31, api.OK, api.ID{})
	d = draftOf(31, actions(1, idOf(31, root)), [][]byte{blob, root}, 16)
	for k := range d.index {
		repacked(d, k, stored[16*k:min(len(stored), 16*k+16)])
	}
	wantVerify(t, "all stored", d.bytes(), 31, api.OK, api.ID{})
}

// laid is a draft whose row has other blobs at the places, of the same lengths.
func laid(d *draft, size int, blobs ...[]byte) *draft {
	d.blocks, d.index = packedOf(slices.Concat(blobs...), size)
	return d
}

func TestP12_6_ABlobOfAnotherID(t *testing.T) {
	blobs := unlike(9, 33)
	places, row := rowOf(31, blobs)
	sorted := slices.Collect(slices.Chunk(row, 33))
	for i := range sorted {
		for k := i + 1; k < len(sorted); k++ {
			swapped := slices.Clone(sorted)
			swapped[i], swapped[k] = swapped[k], swapped[i]
			d := laid(draftOf(31, nil, blobs, 16), 16, swapped...)
			wantVerify(t, fmt.Sprint("blobs ", i, " and ", k, " exchanged"), d.bytes(), 31, api.ErrDigest, places[i].ID)
		}
		turned := slices.Clone(sorted)
		turned[i] = slices.Concat([]byte{turned[i][0] + 1}, turned[i][1:])
		wantVerify(t, fmt.Sprint("blob ", i, " is another"), laid(draftOf(31, nil, blobs, 16), 16, turned...).bytes(), 31, api.ErrDigest, places[i].ID)
		d := draftOf(31, nil, blobs, 16)
		d.places[i].ID = near(d.places[i].ID, 30)
		wantVerify(t, fmt.Sprint("id ", i, " is another"), d.bytes(), 31, api.ErrDigest, d.places[i].ID)
	}
}

// near is an id that differs in one byte alone, and by one.
func near(id api.ID, k int) api.ID {
	if id[k] == 255 {
		id[k]--
	} else {
		id[k]++
	}
	return id
}

// A blob of no bytes has an id, too.
func TestP12_6_NoBytesOfAnotherID(t *testing.T) {
	d := draftOf(32, nil, [][]byte{nil}, 16)
	wantVerify(t, "no bytes", d.bytes(), 32, api.ErrExtra, idOf(32, nil))
	d.places[0].ID = near(d.places[0].ID, 31)
	wantVerify(t, "no bytes of another id", d.bytes(), 32, api.ErrDigest, d.places[0].ID)
	d.places[0].ID = api.ID{}
	wantVerify(t, "the zero id", d.bytes(), 32, api.ErrDigest, api.ID{})
}

// needs are results and blobs that one thing is wrong with, and the id of it.
type needs struct {
	want    api.Errno
	id      api.ID
	results []api.Result
	blobs   [][]byte
}

// wrongNeeds are all that can be wrong with a need, in the order in which it is told.
func wrongNeeds(width int) []needs {
	plain := []byte("this is no tree")
	deep := chain(width, api.MaxDepth+1)
	gone := idOf(width, []byte("gone"))
	lacking := treeOf(file("gone", gone))
	beside := []byte("nobody needs it")
	return []needs{
		{api.ErrNoTree, idOf(width, plain), []api.Result{res(100, idOf(width, plain), 1)}, [][]byte{plain}},
		{api.ErrDeep, idOf(width, deep[api.MaxDepth]), []api.Result{res(110, idOf(width, deep[0]), 2)}, deep},
		{api.ErrMissing, gone, []api.Result{res(120, idOf(width, lacking), 3)}, [][]byte{lacking}},
		{api.ErrExtra, idOf(width, beside), nil, [][]byte{beside}},
	}
}

// Each of them alone, and all of them in all company, a bad block, a bad id and a bad sum beside: the first one is told.
func TestP12_6_OrderOfErrors(t *testing.T) {
	for _, width := range []int{8, 32} {
		wrong := wrongNeeds(width)
		for set := range 1 << (len(wrong) + 3) {
			results, blobs := stock(width)
			want, id := api.OK, api.ID{}
			for k := len(wrong) - 1; k >= 0; k-- {
				if set>>k&1 == 0 {
					continue
				}
				want, id = wrong[k].want, wrong[k].id
				results, blobs = append(results, wrong[k].results...), append(blobs, wrong[k].blobs...)
			}
			slices.SortFunc(results, func(a, b api.Result) int { return bytes.Compare(a.Action[:], b.Action[:]) })
			d := draftOf(width, results, blobs, 16)
			if set>>len(wrong)&1 != 0 {
				d.places[2].ID = near(d.places[2].ID, width-1)
				want, id = api.ErrDigest, d.places[2].ID
			}
			if set>>len(wrong)&2 != 0 {
				d.index[1].Sum ^= 4
				want, id = api.ErrBlock, api.ID{}
			}
			if set>>len(wrong)&4 != 0 {
				turn(func(n *[7]int) { n[5] ^= 1 })(d)
				want, id = api.ErrSum, api.ID{}
			}
			wantVerify(t, fmt.Sprintf("width %d, set %b", width, set), d.bytes(), width, want, id)
		}
	}
}

// Where several ids are to be told, it is the least one.
func TestP12_6_TheLeastID(t *testing.T) {
	least := func(ids []api.ID) api.ID {
		return slices.MinFunc(ids, func(a, b api.ID) int { return bytes.Compare(a[:], b[:]) })
	}
	r := noise()
	for range 40 {
		several := unlike(6, 20+r.IntN(50))
		var ids []api.ID
		var entries []api.Entry
		var results []api.Result
		for i, b := range several {
			b[5] = byte(r.IntN(256))
			ids = append(ids, idOf(32, b))
			entries = append(entries, file(string(rune('a'+i)), ids[i]))
			results = append(results, res(byte(i), ids[i], 0))
		}
		root := treeOf(entries...)
		rooted := actions(1, idOf(32, root))
		whole := append(slices.Clone(several), root)
		wantVerify(t, "whole", mustMake(t, 32, rooted, whole, 16), 32, api.OK, api.ID{})
		wantVerify(t, "missing", mustMake(t, 32, rooted, [][]byte{root}, 16), 32, api.ErrMissing, least(ids))
		wantVerify(t, "some missing", mustMake(t, 32, rooted, whole[3:], 16), 32, api.ErrMissing, least(ids[:3]))
		wantVerify(t, "no trees", mustMake(t, 32, results, several, 16), 32, api.ErrNoTree, least(ids))
		wantVerify(t, "beside", mustMake(t, 32, nil, several, 16), 32, api.ErrExtra, least(ids))
		wantVerify(t, "root and some beside", mustMake(t, 32, actions(1, idOf(32, treeOf())), append(whole, treeOf()), 16), 32, api.ErrExtra, least(append(ids, idOf(32, root))))
	}
}

// Trees: missing ones, ones that are none, ones too deep, ones that are named as files alone.
func TestP12_6_Trees(t *testing.T) {
	gone := idOf(32, []byte("gone"))
	plain := []byte("no tree")
	outer := treeOf(folder("x", idOf(32, plain)))
	wantVerify(t, "a folder that is no tree", mustMake(t, 32, actions(1, idOf(32, outer)), [][]byte{outer, plain}, 16), 32, api.ErrNoTree, idOf(32, plain))
	wantVerify(t, "no root", mustMake(t, 32, actions(1, gone), nil, 16), 32, api.ErrMissing, gone)
	wantVerify(t, "a zero root", mustMake(t, 32, actions(1, api.ID{}), nil, 16), 32, api.ErrMissing, api.ID{})
	lacking := treeOf(folder("x", gone))
	wantVerify(t, "no folder", mustMake(t, 32, actions(1, idOf(32, lacking)), [][]byte{lacking}, 16), 32, api.ErrMissing, gone)
	inner := treeOf(file("gone", gone))
	named := treeOf(file("a tree as a file", idOf(32, inner)))
	wantVerify(t, "a tree as a file is not opened", mustMake(t, 32, actions(1, idOf(32, named)), [][]byte{inner, named}, 16), 32, api.OK, api.ID{})
	wantVerify(t, "but beside the need", mustMake(t, 32, actions(1, idOf(32, treeOf())), [][]byte{inner, treeOf()}, 16), 32, api.ErrExtra, idOf(32, inner))
	deep := chain(32, api.MaxDepth+1)
	wantVerify(t, "too deep", mustMake(t, 32, actions(1, idOf(32, deep[0])), deep, 16), 32, api.ErrDeep, idOf(32, deep[api.MaxDepth]))
	wantVerify(t, "too deep, and not there", mustMake(t, 32, actions(1, idOf(32, deep[0])), deep[:api.MaxDepth], 16), 32, api.ErrDeep, idOf(32, deep[api.MaxDepth]))
}

// With a width below 32 an id with bytes behind it is never there.
func TestP12_6_RootsWiderThanTheWidth(t *testing.T) {
	root := idOf(8, treeOf())
	root[8] = 1
	wantVerify(t, "a byte behind the width", mustMake(t, 8, actions(1, root), [][]byte{treeOf()}, 16), 8, api.ErrMissing, root)
}

// many is a bundle of 4096 blocks whose blobs are all needed.
func many(t *testing.T) []byte {
	t.Helper()
	blobs := unlike(31, 2060)
	var entries []api.Entry
	for i, b := range blobs {
		entries = append(entries, file(fmt.Sprintf("%02d", i), idOf(32, b)))
	}
	root := treeOf(entries...)
	return mustMake(t, 32, actions(3, idOf(32, root)), append(blobs, root), 16)
}

// One answer whichever goroutine comes first: many blocks, many times over, on one core and on several.
func TestW2_OneAnswerUnderEverySchedule(t *testing.T) {
	data := many(t)
	want, errno, _ := verifyByWords(data, 32)
	if errno != api.OK || len(want.Blocks) < 4000 {
		t.Fatalf("%s, %d", shown(want), errno)
	}
	defer runtime.GOMAXPROCS(runtime.GOMAXPROCS(0))
	for _, cores := range []int{1, 2, 3, 8} {
		runtime.GOMAXPROCS(cores)
		for i := range 12 {
			got, err := bundle.Verify(data, 32)
			wantFace(t, fmt.Sprint(cores, " cores"), got, err, "bundle.verify", want, api.OK, api.ID{})
			for _, k := range []int{0, 1, 2048, len(want.Blocks) - 1} {
				b := want.Blocks[k]
				turned := bytes.Clone(data)
				turned[b.At+i%b.Packed] ^= 16
				turned[want.Blocks[(k+100*i)%len(want.Blocks)].At] ^= 3
				got, err := bundle.Verify(turned, 32)
				wantFace(t, fmt.Sprint(cores, " cores, block ", k), got, err, "bundle.verify", api.Face{}, api.ErrBlock, api.ID{})
			}
		}
	}
}

// All goroutines have ended when the call answers, whatever it answers.
func TestW2_GoroutinesHaveEnded(t *testing.T) {
	good := many(t)
	bad := bytes.Clone(good)
	bad[100] ^= 1
	small := stocked(31, 16).bytes()
	before := runtime.NumGoroutine()
	for range 20 {
		bundle.Verify(good, 32)
		bundle.Verify(bad, 32)
		bundle.Verify(small, 31)
		bundle.Verify(small, 30)
	}
	for range 100 {
		if runtime.NumGoroutine() <= before {
			return
		}
		time.Sleep(time.Millisecond)
	}
	t.Errorf("%d goroutines, %d before", runtime.NumGoroutine(), before)
}
