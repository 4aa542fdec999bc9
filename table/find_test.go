package table_test

import (
	"math"
	"slices"
	"testing"

	"freight/api"
)

// wantFoundAsTheWords asks for each action of the list, and for those around it.
func wantFoundAsTheWords(t testing.TB, results []api.Result, more ...api.ID) {
	t.Helper()
	for _, one := range results {
		less, greater := one.Action, one.Action
		less[31]--
		greater[31]++
		more = append(more, one.Action, less, greater)
	}
	for _, action := range more {
		if want, is := findByWords(results, action); is {
			wantFound(t, results, action, want)
		} else {
			wantNotFound(t, results, action)
		}
	}
}

func TestP8_4_NoResults(t *testing.T) {
	for _, action := range []api.ID{{}, idOf(1), idTo(1), full(255)} {
		wantNotFound(t, nil, action)
		wantNotFound(t, []api.Result{}, action)
	}
}

func TestP8_4_BelowBetweenAbove(t *testing.T) {
	results := []api.Result{res(10, 9, 1), res(20, 9, 2), res(128, 9, 3), res(200, 9, 4)}
	for _, one := range results {
		wantFound(t, results, one.Action, one)
	}
	for _, first := range []byte{0, 1, 9, 11, 19, 21, 127, 129, 199, 201, 255} {
		wantNotFound(t, results, idOf(first))
	}
	// They part from one that is there in the last byte alone.
	for _, one := range results {
		action := one.Action
		action[31] = 1
		wantNotFound(t, results, action)
	}
}

func TestP8_4_EachOfAllSizes(t *testing.T) {
	for n := range 33 {
		results := numbered(n, 0x7ff1, 2)
		for i, one := range results {
			wantFound(t, results, one.Action, one)
			wantNotFound(t, append(slices.Clone(results[:i]), results[i+1:]...), one.Action)
		}
		for _, between := range numbered(n+1, 0x7ff0, 2) {
			wantNotFound(t, results, between.Action)
		}
		wantFoundAsTheWords(t, results, api.ID{}, full(255))
	}
}

// A result that is zero but for its code, or all zero, is there or not.
func TestP8_4_ZeroAction(t *testing.T) {
	wantFound(t, []api.Result{{}}, api.ID{}, api.Result{})
	wantFound(t, []api.Result{{Root: idOf(9), Code: 3}, res(1, 9, 7)}, api.ID{}, api.Result{Root: idOf(9), Code: 3})
	wantNotFound(t, []api.Result{res(1, 0, 0)}, api.ID{})
	wantNotFound(t, []api.Result{{Root: idOf(1)}}, idOf(1))
}

func TestP8_4_NoTables(t *testing.T) {
	for _, results := range noTables() {
		wantFoundAsTheWords(t, results, api.ID{}, idOf(1), idOf(2), idOf(3), full(255))
	}
	falling := slices.Clone(numbered(32, 5, 3))
	slices.Reverse(falling)
	wantFoundAsTheWords(t, falling, api.ID{}, full(255))
	wantFound(t, numbered(1000, 0, 1), idOf(2, 100), numbered(1000, 0, 1)[612])
}

// What is found is as it was handed in, whatever its code is.
func TestP8_4_AnyCode(t *testing.T) {
	for _, code := range []int{-1, 256, math.MaxInt, math.MinInt} {
		results := []api.Result{res(1, 9, code), res(2, 9, 0), res(3, 9, code)}
		for _, one := range results {
			wantFound(t, results, one.Action, one)
		}
	}
}

func TestP8_4_TheFirstOfMany(t *testing.T) {
	for n := 2; n <= 40; n++ {
		results := slices.Repeat([]api.Result{res(1, 9, 0)}, n)
		for i := range results {
			results[i].Code = i + 1
		}
		wantFound(t, results, idOf(1), res(1, 9, 1))
		results = append([]api.Result{res(0, 3, 3)}, results...)
		wantFound(t, results, idOf(1), res(1, 9, 1))
		results = append([]api.Result{res(2, 3, 3)}, results...)
		wantFound(t, results, idOf(1), res(1, 9, 1))
		wantNotFound(t, results, idOf(3))
	}
	wantFound(t, []api.Result{res(1, 9, 1), res(2, 9, 2), res(1, 9, 3), res(2, 9, 4)}, idOf(2), res(2, 9, 2))
	wantFound(t, []api.Result{res(2, 9, 1), res(1, 8, 1000), res(1, 9, 0)}, idOf(1), res(1, 8, 1000))
}

func TestP8_4_AnyList(t *testing.T) {
	r := noise()
	for range 2000 {
		results := noiseTable(r)
		wantFoundAsTheWords(t, results, api.ID{}, full(255), noiseAction(r))
		r.Shuffle(len(results), func(i, j int) { results[i], results[j] = results[j], results[i] })
		wantFoundAsTheWords(t, append(results, noiseTable(r)...), api.ID{}, full(255), noiseAction(r))
	}
}
