package plan_test

import (
	"fmt"
	"slices"
	"testing"

	"freight/api"
	"freight/reach"
)

// Each id of a need of five is there, damage, or without a file, in all ways.
func TestP15_1_Adds(t *testing.T) {
	blobs := numbered(8, 5)
	m, need := mapOf(8, blobs...)
	for ways := range 3 * 3 * 3 * 3 * 3 {
		s := stored(t, 8, nil, nil)
		var adds []api.ID
		rest := ways
		for k, id := range need {
			switch rest % 3 {
			case 0:
				s.hand(t, blobName("a", id), blobs[k])
			case 1:
				s.damage(t, id, "spoilt")
				adds = append(adds, id)
			case 2:
				adds = append(adds, id)
			}
			rest /= 3
		}
		for _, policy := range policies() {
			s.wantChange(t, fmt.Sprint("ways ", ways, ", policy ", policy), asked{m, nil, need, policy}, adds, nil)
		}
	}
}

// Adds and Table have nothing to do with each other: an empty need, no results,
// and both.
func TestP15_1_AddsAndTable(t *testing.T) {
	ours := []api.Result{res(1, 1, 1), res(2, 1, 2)}
	theirs := []api.Result{res(2, 9, 9), res(3, 1, 3)}
	kept := []api.Result{ours[0], ours[1], theirs[1]}
	taken := []api.Result{ours[0], theirs[0], theirs[1]}
	blobs := numbered(8, 3)
	m, need := mapOf(8, blobs...)
	s := stored(t, 8, blobs[1:2], ours)
	adds := []api.ID{need[0], need[2]}
	s.wantChange(t, "Keep", asked{m, theirs, need, api.Keep}, adds, kept)
	s.wantChange(t, "Take", asked{m, theirs, need, api.Take}, adds, taken)
	s.wantChange(t, "Fail", asked{m, theirs[1:], need, api.Fail}, adds, kept)
	s.wantChange(t, "no results", asked{m, nil, need, api.Fail}, adds, ours)
	s.wantChange(t, "no need", asked{m, theirs, nil, api.Take}, nil, taken)
	s.wantChange(t, "a part of the need", asked{m, theirs, need[1:2], api.Take}, nil, taken)
	s.wantChange(t, "nothing", asked{m, nil, nil, api.Fail}, nil, ours)
	s.wantChange(t, "nothing new", asked{m, ours, need[1:2], api.Fail}, nil, ours)
	empty := stored(t, 8, nil, nil)
	empty.wantChange(t, "nothing into nothing", asked{reach.Map{}, nil, nil, api.Keep}, nil, nil)
	empty.hand(t, "c.a.table", "\x00")
	empty.wantChange(t, "the empty table's file", asked{reach.Map{}, nil, nil, api.Keep}, nil, nil)
}

// Of makes no stroke, so that it answers whatever a plan says of strokes, and
// whatever room there is; and it does not look at whether an import is open, nor
// take drafts away.
func TestP15_1_NoStroke(t *testing.T) {
	blobs := numbered(8, 3)
	m, need := mapOf(8, blobs...)
	s := stored(t, 8, blobs[:1], []api.Result{res(1, 1, 1)}, of("c.a.import", "an import"))
	s.hand(t, "+c.a.table", "a draft")
	s.disk.Append(blobName("a", need[0]), nil)
	s.disk.Plan(api.Plan{Off: 1, From: 1, To: 9})
	want := []api.Result{res(1, 1, 1), res(2, 1, 1)}
	for range 3 {
		s.wantChange(t, "a plan", asked{m, want[1:], need, api.Fail}, need[1:], want)
		s.wantRefused(t, "a plan", asked{m, []api.Result{res(1, 2, 1)}, need, api.Fail}, api.ErrConflict, act(1))
	}
	if errno := s.disk.SyncNames(); errno != api.ErrOff {
		t.Errorf("the plan's first stroke: %d", errno)
	}
}

// The disk is looked at anew each time: what is not safe as yet counts as it is
// shown.
func TestP15_1_AsTheDiskShowsIt(t *testing.T) {
	blobs := numbered(8, 2)
	m, need := mapOf(8, blobs...)
	s := stored(t, 8, nil, nil)
	a := asked{m, nil, need, api.Keep}
	s.wantChange(t, "empty", a, need, nil)
	name := blobName("a", need[0])
	s.disk.Create(name)
	s.wantChange(t, "damage", a, need, nil)
	s.disk.Append(name, []byte(blobs[0]))
	s.wantChange(t, "there", a, need[1:], nil)
	s.disk.Create("c.a.table")
	s.wantRefused(t, "no table", a, api.ErrCache, api.ID{})
	s.disk.Append("c.a.table", []byte(tableForm(res(1, 1, 1))))
	s.wantChange(t, "a table", a, need[1:], []api.Result{res(1, 1, 1)})
	s.disk.Crash()
	s.wantChange(t, "behind a crash", a, need, nil)
}

// Two caches on a disk have nothing in common; names that begin alike too.
func TestP15_1_AnotherCacheOnTheDisk(t *testing.T) {
	blobs := numbered(8, 2)
	m, need := mapOf(8, blobs...)
	s := stored(t, 8, blobs, []api.Result{res(1, 1, 1)})
	for _, name := range []string{"b", "a-", "aa", "table"} {
		other := opened(t, s.disk, name, 8)
		other.wantChange(t, name, asked{m, nil, need, api.Keep}, need, nil)
		other.wantRefused(t, name, asked{m, nil, need, 0}, api.ErrArg, api.ID{})
		other.wantRefused(t, name, asked{reach.Map{}, nil, need, api.Keep}, api.ErrNoBlob, need[0])
	}
	s.wantChange(t, "a", asked{m, nil, need, api.Keep}, nil, []api.Result{res(1, 1, 1)})
}

// What is asked of a source says nothing of the order in which its map lies.
func TestW2_TheSameEachTime(t *testing.T) {
	blobs := numbered(8, 60)
	m, need := mapOf(8, blobs...)
	s := stored(t, 8, blobs[10:40], resultsFrom(1, 20))
	a := asked{m, resultsFrom(10, 20), need, api.Take}
	want, err := s.ask(a)
	if err != nil {
		t.Fatal(err)
	}
	for range 50 {
		again, _ := mapOf(8, blobs...)
		a.source = again
		got, err := s.ask(a)
		if err != nil || !slices.Equal(got.Adds, want.Adds) || !slices.Equal(got.Table, want.Table) {
			t.Fatalf("another answer: %v", err)
		}
	}
}
