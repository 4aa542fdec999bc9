package cache_test

import (
	"bytes"
	"fmt"
	"slices"
	"sync"
	"testing"

	"freight/api"
	"freight/cache"
)

// roomy is a copy of data with spare room that is full.
func roomy(data string) []byte {
	whole := append([]byte(data), bytes.Repeat([]byte{0xa5}, 60)...)
	return whole[:len(data)]
}

// fill writes over a list, and over its room.
func fill[T any](list []T, with T) {
	whole := list[:cap(list)]
	for i := range whole {
		whole[i] = with
	}
}

// everyWay are caches on which a row of bytes is laid in every way, and refused in some.
func everyWay(t *testing.T, data string) map[string]*cache.Cache {
	t.Helper()
	ways := map[string]*cache.Cache{}
	_, ways["new"] = made(t)
	_, ways["there"] = made(t, blob(data))
	_, ways["damage"] = made(t, damage(data, data+"?"))
	_, ways["open"] = made(t, of("c.a.import", ""))
	_, ways["off"] = off(t, blob(data))
	_, ways["no room"] = full(t, api.ErrFull)
	_, ways["no files"] = full(t, api.ErrFiles)
	_, ways["blobs"] = made(t, fullOf(t, 128, data)...)
	ways["none"] = nil
	for at := 1; at <= 5; at++ {
		d, c := made(t)
		d.Plan(api.Plan{Off: at})
		ways[fmt.Sprint("cut off at ", at)] = c
	}
	return ways
}

// What is laid is as it was behind the call, and may be written over then.
func TestP10_15_LaidBytes(t *testing.T) {
	for _, row := range []string{"", "pallet", times(4096, "x"), times(4097, "x")} {
		for _, l := range layers() {
			for what, c := range everyWay(t, row) {
				data := roomy(row)
				before := slices.Clone(data[:cap(data)])
				_, err := l.call(c, data)
				if !bytes.Equal(data[:cap(data)], before) {
					t.Errorf("%s, %s: what was handed in is another", l.op, what)
				}
				shown, safe := c.Disk().Files(), c.Disk().Safe()
				fill(data, 0x5a)
				if !same(c.Disk().Files(), shown) || !same(c.Disk().Safe(), safe) {
					t.Errorf("%s, %s: written over behind it: %s", l.op, what, all(c.Disk()))
				}
				if err == nil {
					wantGet(t, c, id1(row), row)
				}
			}
		}
	}
}

func TestP10_15_SwappedTables(t *testing.T) {
	for _, results := range [][]api.Result{nil, actions(3, api.ID{7}), actions(32, api.ID{}), actions(33, api.ID{}), {res(2, api.ID{}, 0), res(1, api.ID{}, 0)}} {
		for what, c := range everyWay(t, "pallet") {
			list := append(slices.Clone(results), slices.Repeat([]api.Result{res(77, api.ID{77}, 77)}, 9)...)[:len(results)]
			before := slices.Clone(list[:cap(list)])
			err := c.Swap(list)
			if !slices.Equal(list[:cap(list)], before) {
				t.Errorf("Swap, %s: what was handed in is another", what)
			}
			shown := c.Disk().Files()
			fill(list, res(88, api.ID{88}, 88))
			if !same(c.Disk().Files(), shown) {
				t.Errorf("Swap, %s: written over behind it: %s", what, all(c.Disk()))
			}
			if err == nil {
				wantTable(t, c, results...)
			}
		}
	}
}

// Answers may be written over, spare room too: no other answer and no file is another.
func TestP10_15_AnswersAreNew(t *testing.T) {
	files, root := stock()
	files = append(files, blob(""), of("c.a.table", tableOf(actions(5, root)...)))
	d, c := made(t, files...)
	ids, _ := c.Blobs()
	wantNothing(t, "written over", d, func() {
		for _, id := range ids {
			one, _ := c.Get(id)
			other, _ := c.Get(id)
			want := string(other)
			fill(one, 0x5a)
			_ = append(one, "more and more"...)
			if string(other) != want {
				t.Errorf("Get(%s): another answer is another", short(id))
			}
			wantGet(t, c, id, want)
		}
		list, _ := c.Blobs()
		fill(list, api.ID{0x5a})
		wantBlobs(t, c, ids...)
		seq, _ := c.All()
		results, _ := c.Table()
		fill(results, res(88, api.ID{88}, 88))
		wantTable(t, c, actions(5, root)...)
		if got := slices.Collect(seq); !slices.Equal(got, actions(5, root)) {
			t.Errorf("All: %s", told(got...))
		}
	})
}

// An answer stays as it is, whatever comes to the files.
func TestP10_15_AnswersStay(t *testing.T) {
	d, c := made(t, blob("pallet"), of("c.a.table", tableOf(actions(2, api.ID{})...)))
	data, _ := c.Get(id1("pallet"))
	ids, _ := c.Blobs()
	results, _ := c.Table()
	do(t, d.WriteAt(nameOf(id1("pallet")), 0, []byte("BALLETS")), d.WriteAt("c.a.table", 5, []byte("zzz")))
	wantPut(t, c, "pallet")
	wantSwap(t, c, nil, api.OK)
	wantDrop(t, c, id1("pallet"), api.ID{}, api.OK)
	if string(data) != "pallet" || !slices.Equal(ids, []api.ID{id1("pallet")}) || !slices.Equal(results, actions(2, api.ID{})) {
		t.Errorf("%q, %s, %s", data, short(ids...), told(results...))
	}
}

// What Get told may be handed in again.
func TestP10_15_PutWhatGetTold(t *testing.T) {
	_, c := made(t, blob("pallet"))
	data, _ := c.Get(id1("pallet"))
	for range 2 {
		if id, err := c.Put(data[:3]); err != nil || id != id1("pal") {
			t.Errorf("Put: %s, %v", short(id), err)
		}
	}
	fill(data, 0x5a)
	wantGet(t, c, id1("pal"), "pal")
	wantGet(t, c, id1("pallet"), "pallet")
	results := actions(4, api.ID{})
	wantSwap(t, c, results, api.OK)
	table, _ := c.Table()
	wantSwap(t, c, table[1:3], api.OK)
	wantTable(t, c, results[1:3]...)
}

// W5: nil and empty are the same where they are handed in.
func TestW5_NilAndEmpty(t *testing.T) {
	for at := range 7 {
		d, c := made(t, of("c.a.table", "\x09"))
		e, f := made(t, of("c.a.table", "\x09"))
		d.Plan(api.Plan{Off: at})
		e.Plan(api.Plan{Off: at})
		one, oneErr := c.Put(nil)
		other, otherErr := f.Put([]byte{})
		if one != other || api.Code(oneErr) != api.Code(otherErr) || api.Code(c.Swap(nil)) != api.Code(f.Swap([]api.Result{})) || !alike(d, e) {
			t.Errorf("off at %d: %s, %s", at, all(d), all(e))
		}
	}
}

// W2: the same each time, and on many disks at the same time.
func TestW2_TheSameEachTime(t *testing.T) {
	said := make([]string, 8)
	var together sync.WaitGroup
	for i := range said {
		d := mustLoad(t, 9000, append(damages(40), of("c.a.table", tableOf(actions(9, id1(treeOf()))...)))...)
		c := mustOpen(t, d, "a", 1)
		g := theGoods()
		together.Go(func() {
			r := noise()
			for range 200 {
				said[i] += saysOf(c, g.anyCall(r.IntN)) + "\n"
			}
			said[i] += all(d) + fmt.Sprint(d.Reads())
		})
	}
	together.Wait()
	for i := range said {
		if said[i] != said[0] {
			t.Error("once more: other answers")
		}
	}
}
