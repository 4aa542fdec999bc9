package plan_test

import (
	"fmt"
	"slices"
	"testing"

	"freight/api"
	"freight/reach"
)

func TestP15_1_Conflicts(t *testing.T) {
	ours := []api.Result{res(1, 1, 1), res(3, 1, 3), res(5, 1, 5), res(7, 1, 7)}
	for _, x := range []struct {
		what       string
		theirs     []api.Result
		least      api.ID // zero: no conflict
		keep, take []api.Result
	}{
		{"another code", []api.Result{res(3, 1, 30)}, act(3), ours, []api.Result{ours[0], res(3, 1, 30), ours[2], ours[3]}},
		{"another root", []api.Result{res(5, 2, 5)}, act(5), ours, []api.Result{ours[0], ours[1], res(5, 2, 5), ours[3]}},
		{"like results", []api.Result{ours[1], ours[3]}, api.ID{}, ours, ours},
		{"just the same", ours, api.ID{}, ours, ours},
		{"none", nil, api.ID{}, ours, ours},
		{"several, others between", []api.Result{ours[0], res(2, 2, 2), res(5, 2, 50), res(7, 2, 7), res(9, 1, 9)}, act(5),
			[]api.Result{ours[0], res(2, 2, 2), ours[1], ours[2], ours[3], res(9, 1, 9)},
			[]api.Result{ours[0], res(2, 2, 2), ours[1], res(5, 2, 50), res(7, 2, 7), res(9, 1, 9)}},
		{"all", []api.Result{res(1, 9, 1), res(3, 9, 3), res(5, 9, 5), res(7, 9, 7)}, act(1), ours,
			[]api.Result{res(1, 9, 1), res(3, 9, 3), res(5, 9, 5), res(7, 9, 7)}},
	} {
		s := stored(t, 8, nil, ours)
		m, need := mapOf(8, "crate")
		s.wantChange(t, x.what+", Keep", asked{m, x.theirs, need, api.Keep}, need, x.keep)
		s.wantChange(t, x.what+", Take", asked{m, x.theirs, need, api.Take}, need, x.take)
		if x.least == (api.ID{}) {
			s.wantChange(t, x.what+", Fail", asked{m, x.theirs, need, api.Fail}, need, x.keep)
		} else {
			s.wantRefused(t, x.what+", Fail", asked{m, x.theirs, need, api.Fail}, api.ErrConflict, x.least)
		}
	}
}

// The least action may be the zero one: it is named all the same.
func TestP15_1_AConflictOfTheZeroAction(t *testing.T) {
	s := stored(t, 8, nil, []api.Result{res(0, 1, 1), res(1, 1, 1)})
	s.wantRefused(t, "zero", asked{reach.Map{}, []api.Result{res(0, 1, 2), res(1, 1, 2)}, nil, api.Fail}, api.ErrConflict, api.ID{})
	last := api.ID(slices.Repeat([]byte{255}, 32))
	s = stored(t, 8, nil, []api.Result{{Action: last}})
	s.wantRefused(t, "the last", asked{reach.Map{}, []api.Result{{Action: last, Code: 1}}, nil, api.Fail}, api.ErrConflict, last)
}

// A union of MaxActions results, and of one more.
func TestP15_1_Actions(t *testing.T) {
	for _, n := range []int{0, 1, 16, 31, 32} {
		ours := resultsFrom(1, n)
		for _, both := range []int{0, min(n, 1), min(n, 5)} {
			theirs := slices.Concat(ours[n-both:], resultsFrom(100, api.MaxActions-n))
			s := stored(t, 8, nil, ours)
			more := slices.Concat(theirs, []api.Result{res(200, 1, 1)})
			for _, policy := range policies() {
				what := fmt.Sprint(n, " and ", len(theirs), ", policy ", policy)
				s.wantChange(t, what, asked{reach.Map{}, theirs, nil, policy}, nil, slices.Concat(ours, theirs[both:]))
				if len(more) <= api.MaxActions {
					s.wantRefused(t, what+", one more", asked{reach.Map{}, more, nil, policy}, api.ErrActions, api.ID{})
				}
			}
		}
	}
}

// ErrConflict stands ahead of ErrActions; what is no conflict under Keep and Take
// is too many there.
func TestP15_1_AConflictAheadOfActions(t *testing.T) {
	s := stored(t, 8, nil, resultsFrom(1, api.MaxActions))
	theirs := []api.Result{res(4, 9, 9), res(7, 9, 9), res(200, 1, 1)}
	s.wantRefused(t, "Fail", asked{reach.Map{}, theirs, nil, api.Fail}, api.ErrConflict, act(4))
	s.wantRefused(t, "Keep", asked{reach.Map{}, theirs, nil, api.Keep}, api.ErrActions, api.ID{})
	s.wantRefused(t, "Take", asked{reach.Map{}, theirs, nil, api.Take}, api.ErrActions, api.ID{})
	s.wantRefused(t, "none that is unlike", asked{reach.Map{}, theirs[2:], nil, api.Fail}, api.ErrActions, api.ID{})
}

// A cache's table as it is on the disk, whatever its results need, and results
// that need what nobody has: nothing is asked of it.
func TestP15_1_NothingIsAskedOfRoots(t *testing.T) {
	s := stored(t, 32, nil, []api.Result{res(1, 77, 1)})
	theirs := []api.Result{res(2, 78, 2)}
	s.wantChange(t, "roots of nobody", asked{reach.Map{}, theirs, nil, api.Fail}, nil, []api.Result{res(1, 77, 1), res(2, 78, 2)})
}
