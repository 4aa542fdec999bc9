package export_test

import (
	"bytes"
	"runtime"
	"slices"
	"sync"
	"testing"
	"time"

	"freight/api"
	"freight/export"
)

// The list of actions stays as it was, behind its end too, whether it is refused
// or not.
func TestP14_8_ActionsAreNotChanged(t *testing.T) {
	s := stored(t, stock(32))
	for _, list := range [][]api.ID{acts(4, 1, 3, 1, 2, 4), acts(9, 1, 8, 1), acts(4, 3, 2, 1), acts(2, 2, 2), acts(1)} {
		for end := 0; end <= len(list); end++ {
			whole := slices.Concat(list, acts(200, 100, 150))
			kept := slices.Clone(whole)
			for _, size := range []int{64, 15} {
				export.Build(s.cache, whole[:end], size)
				export.Export(s.cache, whole[:end], size, "x")
				export.Export(s.cache, whole[:end], size, "+x")
			}
			if !slices.Equal(whole, kept) {
				t.Errorf("%d of %d: the list is another", end, len(list))
			}
		}
	}
}

// Nor are they kept: what comes of the list later says nothing.
func TestP14_8_ActionsAreNotKept(t *testing.T) {
	s := stored(t, stock(32))
	actions := acts(3, 1)
	data := s.mustBuild(t, actions, 64)
	want := bytes.Clone(data)
	_, err := export.Build(s.cache, append(actions, act(9)), 64)
	fill(actions, act(77))
	if !bytes.Equal(data, want) || !bytes.Equal(s.mustBuild(t, acts(1, 3), 64), want) {
		t.Error("the answer is another")
	}
	wantFault(t, "refused", err, "export.build", "a", api.ErrNoAction, act(9))
}

// What Build answers is new memory, spare room too: it has nothing in common with
// another answer, or with the disk.
func TestP14_8_NewMemory(t *testing.T) {
	for _, actions := range [][]api.ID{nil, acts(2), acts(1, 2, 3, 4)} {
		s := stored(t, stock(32))
		before := s.disk.Twin()
		one, other := s.mustBuild(t, actions, 64), s.mustBuild(t, actions, 64)
		want := bytes.Clone(one)
		_ = append(one, "more"...)
		fill(one, 0x5a)
		if !bytes.Equal(other, want) {
			t.Error("two answers share memory")
		}
		fill(other, 0xa5)
		if !bytes.Equal(one[:cap(one)], bytes.Repeat([]byte{0x5a}, cap(one))) {
			t.Error("two answers share room")
		}
		wantSameDisk(t, "answers written over", s.disk, before)
		if !bytes.Equal(s.mustBuild(t, actions, 64), want) {
			t.Error("a third answer is another")
		}
	}
}

// Blobs that are stored as they are, and one alone that fills a block: these are
// not handed on either.
func TestP14_8_NewMemoryOfStoredBlocks(t *testing.T) {
	blob := drawn(noise(), api.MaxBlob)
	root := filesTree(32, blob)
	s := stored(t, goods{32, []string{blob, root}, []api.Result{res(1, idOf(32, root), 0)}})
	for _, size := range []int{16, 4096} {
		data := s.mustBuild(t, acts(1), size)
		fill(data, 0)
		if got, err := s.cache.Get(idOf(32, blob)); err != nil || string(got) != blob {
			t.Errorf("the blob is another: %v", err)
		}
		s.wantBuilt(t, "written over", acts(1), size)
	}
}

// An answer does not hang on the disk, nor a file on an answer.
func TestP14_8_TheDiskChangesBehind(t *testing.T) {
	g := stock(32)
	s := stored(t, g)
	data := s.mustBuild(t, acts(1, 3), 64)
	want := bytes.Clone(data)
	if err := export.Export(s.cache, acts(1, 3), 64, "x"); err != nil {
		t.Fatal(err)
	}
	s.disk.WriteAt("x", 0, bytes.Repeat([]byte{7}, len(data)))
	for _, blob := range g.blobs {
		s.disk.WriteAt(blobName("a", g.id(blob)), 0, bytes.Repeat([]byte{7}, 5))
	}
	s.disk.Truncate("c.a.table", 3)
	if !bytes.Equal(data, want) {
		t.Error("the answer is another")
	}
	s.disk.Crash()
	if got, _ := shown(s.disk, "x"); got != string(want) {
		t.Error("what is safe of the file is another")
	}
}

// All goroutines have ended when a call has answered. (One that is about to end
// may be counted for a moment still.)
func TestW2_GoroutinesHaveEnded(t *testing.T) {
	g := stock(32)
	good, lacking, dark := stored(t, g), stored(t, g), stored(t, g)
	lacking.away(t, blobName("a", g.id(pallet)))
	dark.darken(t)
	root, blobs := rowOf(api.MaxRow + 1)
	long := stored(t, goods{32, append(blobs, root), []api.Result{res(1, idOf(32, root), 0)}})
	before := runtime.NumGoroutine()
	for range 200 {
		for _, s := range []*store{good, lacking, dark, long} {
			export.Build(s.cache, acts(1), 4096)
			export.Build(s.cache, nil, 64)
			export.Export(s.cache, acts(1), 4096, "x")
		}
		good.disk.Plan(api.Plan{From: 1, To: 2})
		export.Export(good.cache, acts(1), 64, "x")
		good.disk.Plan(api.Plan{})
	}
	for wait := 0; runtime.NumGoroutine() > before && wait < 1000; wait++ {
		time.Sleep(time.Millisecond)
	}
	if now := runtime.NumGoroutine(); now > before {
		t.Errorf("%d goroutines, before: %d", now, before)
	}
}

// Calls on disks of their own know nothing of each other, however they run.
func TestW2_SideBySide(t *testing.T) {
	want := stored(t, stock(32)).mustBuild(t, acts(1, 2, 3), 16)
	var all sync.WaitGroup
	for range 16 {
		s := stored(t, stock(32))
		all.Go(func() {
			for range 20 {
				got, err := export.Build(s.cache, acts(3, 2, 1), 16)
				if err != nil || !bytes.Equal(got, want) {
					t.Errorf("%d bytes, %v", len(got), err)
				}
				if err := export.Export(s.cache, acts(1), 64, "x"); err != nil {
					t.Error(err)
				}
			}
		})
	}
	all.Wait()
}

// A nil list and an empty one are the same.
func TestW5_NilAndEmpty(t *testing.T) {
	s := stored(t, stock(32))
	if !bytes.Equal(s.mustBuild(t, nil, 64), s.mustBuild(t, []api.ID{}, 64)) {
		t.Error("other bytes")
	}
	wantFault(t, "nil", export.Export(s.cache, nil, 64, "x"), "export.export", "a", api.OK, api.ID{})
	one, _ := shown(s.disk, "x")
	wantFault(t, "empty", export.Export(s.cache, []api.ID{}, 64, "x"), "export.export", "a", api.OK, api.ID{})
	if other, _ := shown(s.disk, "x"); one != other {
		t.Error("another file")
	}
}
