package plan_test

import (
	"errors"
	"fmt"
	"math/rand/v2"
	"slices"
	"testing"

	"freight/api"
	"freight/reach"
)

// carryOut lays the blobs of a change and swaps its table in.
func (s *store) carryOut(t testing.TB, what string, source reach.Source, change api.Change) {
	t.Helper()
	for _, id := range change.Adds {
		data, err := source.Get(id)
		if err != nil {
			t.Fatalf("%s: %v", what, err)
		}
		if laid, err := s.cache.Lay(data); err != nil || laid != id {
			t.Fatalf("%s: laid as %x: %v", what, laid[:3], err)
		}
	}
	if err := s.cache.Swap(change.Table); err != nil {
		t.Fatalf("%s: %v", what, err)
	}
}

// drawnAsked is a cache and what is asked of it, of many kinds; most of it is
// taken.
func drawnAsked(t testing.TB, r *rand.Rand) (*store, asked) {
	width := []int{1, 2, 8, 32}[r.IntN(4)]
	blobs := numbered(width, 1+r.IntN(12))
	m, need := mapOf(width, blobs...)
	s := stored(t, width, nil, drawnResults(r, 2))
	for k, id := range need {
		switch r.IntN(5) {
		case 0, 1:
			s.hand(t, blobName("a", id), blobs[k])
		case 2:
			s.damage(t, id, times(r.IntN(2)*api.MaxBlob, "d")+"spoilt")
		}
	}
	if width <= 2 && r.IntN(8) == 0 {
		k := r.IntN(len(blobs))
		s.hand(t, blobName("a", need[k]), clash(width, blobs[k]))
	}
	return s, asked{m, drawnResults(r, 3), need, 1 + r.IntN(3)}
}

// drawnResults are some of few actions, of few roots and codes.
func drawnResults(r *rand.Rand, roots int) []api.Result {
	var list []api.Result
	for action := range 6 {
		if r.IntN(3) == 0 {
			list = append(list, res(byte(action), byte(r.IntN(roots)), 0))
		}
	}
	return list
}

// What is planned is laid and swapped in, then asked again: no Adds and that
// Table, under the same policy, and behind Take under Keep and Fail too.
func TestP15_3_AskedAgain(t *testing.T) {
	r := noise()
	done := map[int]int{}
	for i := range 1500 {
		s, a := drawnAsked(t, r)
		what := fmt.Sprint("drawn ", i, ", policy ", a.policy)
		change, err := s.ask(a)
		if s.wantAsTheWordsSay(t, what, a) != api.OK {
			continue
		}
		if err != nil {
			t.Fatal(what, err)
		}
		done[a.policy]++
		s.carryOut(t, what, a.source, change)
		s.wantChange(t, what+", again", a, nil, change.Table)
		if a.policy == api.Take {
			for _, policy := range policies() {
				again := a
				again.policy = policy
				s.wantChange(t, fmt.Sprint(what, ", then ", policy), again, nil, change.Table)
			}
		}
	}
	for _, policy := range policies() {
		if done[policy] < 100 {
			t.Errorf("policy %d is carried out %d times", policy, done[policy])
		}
	}
}

// Behind Keep a conflict stays one: Fail says so.
func TestP15_3_BehindKeep(t *testing.T) {
	s := stored(t, 8, nil, []api.Result{res(1, 1, 1)})
	m, need := mapOf(8, "crate")
	a := asked{m, []api.Result{res(1, 2, 2), res(2, 2, 2)}, need, api.Keep}
	change, err := s.ask(a)
	if err != nil {
		t.Fatal(err)
	}
	s.carryOut(t, "Keep", m, change)
	s.wantChange(t, "Keep", a, nil, change.Table)
	a.policy = api.Fail
	s.wantRefused(t, "Fail", a, api.ErrConflict, act(1))
}

// What is planned for a cache that will be full to its last file and action can
// be carried out.
func TestP15_3_ToTheLimits(t *testing.T) {
	all := numbered(32, api.MaxBlobs)
	m, need := mapOf(32, all...)
	s := stored(t, 32, all[:60], resultsFrom(1, 20))
	s.damage(t, need[100], "spoilt")
	a := asked{m, resultsFrom(10, 23), need, api.Take}
	change, err := s.ask(a)
	if err != nil || len(change.Adds) != api.MaxBlobs-60 || len(change.Table) != api.MaxActions {
		t.Fatalf("%d ids, %d results, %v", len(change.Adds), len(change.Table), err)
	}
	s.carryOut(t, "full", m, change)
	for _, policy := range policies() {
		a.policy = policy
		s.wantChange(t, "full", a, nil, change.Table)
	}
}

// What is refused for too many files or actions could not have been carried out,
// and a clash could not have been laid.
func TestP15_1_WhatIsRefusedCannotBeDone(t *testing.T) {
	all := numbered(2, api.MaxBlobs+1)
	m, need := mapOf(2, all...)
	s := stored(t, 2, all[:100], nil)
	s.wantRefused(t, "one more", asked{m, nil, need, api.Keep}, api.ErrBlobs, api.ID{})
	var last error
	for _, b := range all {
		if _, err := s.cache.Lay([]byte(b)); err != nil {
			last = err
		}
	}
	if !errors.Is(last, api.ErrBlobs) {
		t.Errorf("laid: %v", last)
	}
	s = stored(t, 2, []string{clash(2, all[0])}, nil)
	s.wantRefused(t, "a clash", asked{m, nil, need[:1], api.Keep}, api.ErrCollision, need[0])
	if _, err := s.cache.Lay([]byte(all[0])); !errors.Is(err, api.ErrCollision) {
		t.Errorf("laid: %v", err)
	}
}

// With an empty Adds and a Table that is the cache's, to lay the whole need and to
// swap the table in makes no stroke, and changes nothing that is told.
func TestP15_2_NothingWouldChange(t *testing.T) {
	r := noise()
	met := 0
	for i := range 600 {
		s, a := drawnAsked(t, r)
		what := fmt.Sprint("drawn ", i)
		if change, err := s.ask(a); err == nil && i%2 == 0 {
			s.carryOut(t, what, a.source, change)
		}
		held, _ := s.cache.Table()
		change, err := s.ask(a)
		if err != nil || len(change.Adds) > 0 || !slices.Equal(change.Table, held) {
			continue
		}
		met++
		before := s.disk.Twin()
		change.Adds = a.need
		s.carryOut(t, what, a.source, change)
		wantSameDisk(t, what, s.disk, before)
	}
	if met < 100 {
		t.Errorf("met %d times", met)
	}
}

// Where an import would change something, Adds or Table say so.
func TestP15_2_SomethingWouldChange(t *testing.T) {
	r := noise()
	for i := range 600 {
		s, a := drawnAsked(t, r)
		what := fmt.Sprint("drawn ", i)
		change, err := s.ask(a)
		if err != nil {
			continue
		}
		held, _ := s.cache.Table()
		w := s.twin(t)
		whole := change
		whole.Adds = a.need
		w.carryOut(t, what, a.source, whole)
		same := sameFiles(w.disk.Files(), s.disk.Files())
		if says := len(change.Adds) == 0 && slices.Equal(change.Table, held); says != same {
			t.Errorf("%s: the files stay: %t, the change says %t", what, same, says)
		}
	}
}
