package plan_test

import (
	"bytes"
	"slices"
	"sync"
	"testing"

	"freight/api"
)

// Lists stay as they were, behind their ends too, whether the call is refused or
// not.
func TestP15_4_ListsAreNotChanged(t *testing.T) {
	blobs := numbered(8, 6)
	s := stored(t, 8, blobs[:3], []api.Result{res(1, 1, 1), res(3, 1, 1)})
	m, need := mapOf(8, blobs...)
	turned := slices.Clone(need)
	slices.Reverse(turned)
	for _, results := range [][]api.Result{nil, {res(1, 1, 1), res(2, 1, 1)}, {res(1, 2, 1)}, {res(2, 1, 1), res(1, 1, 1)}, resultsFrom(1, 32), resultsFrom(1, 33)} {
		for _, ids := range [][]api.ID{nil, need, need[2:], turned, {need[0], need[0]}, {{}, need[1]}} {
			for policy := range 5 {
				a := asked{m, spare(results, res(200, 9, 9)), spare(ids, api.ID{250}), policy}
				s.ask(a)
				if !slices.Equal(a.results, results) || !slices.Equal(a.need, ids) {
					t.Fatal("a list is another")
				}
				if behind := a.results[len(results):cap(a.results)]; slices.ContainsFunc(behind, func(r api.Result) bool { return r != res(200, 9, 9) }) {
					t.Fatal("behind the results")
				}
				if behind := a.need[len(ids):cap(a.need)]; slices.ContainsFunc(behind, func(id api.ID) bool { return id != api.ID{250} }) {
					t.Fatal("behind the need")
				}
			}
		}
	}
}

// What a source tells may be its own memory: it stays as it was, behind its end
// too.
func TestP15_4_BytesOfTheSourceAreNotChanged(t *testing.T) {
	blobs := append(numbered(1, 5), times(api.MaxBlob, "x"))
	_, need := mapOf(1, blobs...)
	l := lending{}
	for k, b := range blobs {
		l[idOf(1, b)] = spare([]byte(b), 0xee)
		if k == 4 {
			l[idOf(1, b)] = spare([]byte("of another id"), 0xee)
		}
	}
	for _, held := range [][]string{nil, blobs[:2], {clash(1, blobs[0])}} {
		s := stored(t, 1, held, nil)
		for end := range len(need) + 1 {
			s.ask(asked{l, nil, need[:end], api.Keep})
			s.ask(asked{l, nil, need[end:], api.Keep})
		}
	}
	for k, b := range blobs {
		if k == 4 {
			b = "of another id"
		}
		data := l[idOf(1, blobs[k])]
		if string(data) != b || !bytes.Equal(data[len(data):cap(data)], bytes.Repeat([]byte{0xee}, 3)) && cap(data) != len(data) {
			t.Errorf("the bytes of %.10q are others", b)
		}
	}
}

// Nothing that was handed in is kept: what comes of it later says nothing.
func TestP15_4_NothingIsKept(t *testing.T) {
	blobs := numbered(8, 4)
	s := stored(t, 8, blobs[:1], []api.Result{res(1, 1, 1)})
	m, need := mapOf(8, blobs...)
	wantNeed := slices.Clone(need)
	results := []api.Result{res(2, 1, 2), res(3, 1, 3)}
	l := lending{}
	for id, data := range m {
		l[id] = bytes.Clone(data)
	}
	change, err := s.ask(asked{l, results, need, api.Fail})
	_, refused := s.ask(asked{refusing(l, api.ErrBlock, need[2]), results, need, api.Fail})
	fill(need, api.ID{9})
	fill(results, res(99, 9, 9))
	for _, data := range l {
		fill(data, 0)
	}
	clear(l)
	want := []api.Result{res(1, 1, 1), res(2, 1, 2), res(3, 1, 3)}
	if err != nil || !slices.Equal(change.Adds, wantNeed[1:]) || !slices.Equal(change.Table, want) {
		t.Errorf("the answer is another: %v, %v", change, err)
	}
	wantFault(t, "refused", refused, "a", api.ErrBlock, wantNeed[2])
	s.wantChange(t, "again", asked{m, want[1:], wantNeed, api.Fail}, wantNeed[1:], want)
}

// What is answered is new memory, spare room too: it has nothing in common with an
// argument, another answer, or the disk.
func TestP15_4_NewMemory(t *testing.T) {
	blobs := numbered(8, 5)
	ours := []api.Result{res(1, 1, 1), res(4, 1, 1)}
	for _, held := range [][]string{nil, blobs[:2], blobs} {
		for _, results := range [][]api.Result{nil, {res(2, 1, 1)}, ours} {
			s := stored(t, 8, held, ours)
			before := s.disk.Twin()
			m, need := mapOf(8, blobs...)
			a := asked{m, spare(results, res(200, 9, 9)), spare(need, api.ID{250}), api.Take}
			one, err := s.ask(a)
			other, _ := s.ask(a)
			want := api.Change{Adds: slices.Clone(other.Adds), Table: slices.Clone(other.Table)}
			if err != nil {
				t.Fatal(err)
			}
			fill(one.Adds, api.ID{7})
			fill(one.Table, res(77, 7, 7))
			if !slices.Equal(other.Adds, want.Adds) || !slices.Equal(other.Table, want.Table) {
				t.Error("two answers share memory")
			}
			fill(other.Adds, api.ID{8})
			fill(other.Table, res(88, 8, 8))
			if slices.Contains(one.Adds[:cap(one.Adds)], api.ID{8}) || slices.Contains(one.Table[:cap(one.Table)], res(88, 8, 8)) {
				t.Error("two answers share room")
			}
			if !slices.Equal(a.need, need) || !slices.Equal(a.results, results) || a.need[:len(need)+1][len(need)] != (api.ID{250}) || a.results[:len(results)+1][len(results)] != res(200, 9, 9) {
				t.Error("an answer shares memory with an argument")
			}
			wantSameDisk(t, "written over", s.disk, before)
			s.wantChange(t, "a third answer", a, want.Adds, want.Table)
		}
	}
}

// A nil list and an empty one are the same.
func TestW5_NilAndEmpty(t *testing.T) {
	s := stored(t, 8, []string{"crate"}, []api.Result{res(1, 1, 1)})
	good := goodAsked(8)
	for _, results := range [][]api.Result{nil, {}, good.results[:0]} {
		for _, need := range [][]api.ID{nil, {}, good.need[:0]} {
			s.wantChange(t, "none", asked{good.source, results, need, api.Fail}, nil, []api.Result{res(1, 1, 1)})
		}
	}
}

// Calls on disks of their own, over one source, know nothing of each other.
func TestW2_SideBySide(t *testing.T) {
	blobs := numbered(8, 20)
	m, need := mapOf(8, blobs...)
	results := resultsFrom(3, 10)
	var all sync.WaitGroup
	for k := range 16 {
		s := stored(t, 8, blobs[:k], nil)
		all.Go(func() {
			for range 20 {
				got, err := s.ask(asked{m, results, need, api.Keep})
				if err != nil || !slices.Equal(got.Adds, need[k:]) || !slices.Equal(got.Table, results) {
					t.Errorf("%d ids, %v", len(got.Adds), err)
				}
			}
		})
	}
	all.Wait()
}
