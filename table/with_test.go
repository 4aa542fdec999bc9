package table_test

import (
	"math"
	"slices"
	"testing"

	"freight/api"
)

func TestP8_5_FirstLastBetween(t *testing.T) {
	one := res(5, 8, 1)
	below, above := res(3, 9, 7), res(7, 9, 0)
	wantWith(t, nil, one, []api.Result{one}, api.OK)
	wantWith(t, []api.Result{above}, one, []api.Result{one, above}, api.OK)
	wantWith(t, []api.Result{below}, one, []api.Result{below, one}, api.OK)
	wantWith(t, []api.Result{below, above}, one, []api.Result{below, one, above}, api.OK)
	wantWith(t, []api.Result{res(1, 0, 0), below}, one, []api.Result{res(1, 0, 0), below, one}, api.OK)
	wantWith(t, []api.Result{above, res(255, 0, 0)}, one, []api.Result{one, above, res(255, 0, 0)}, api.OK)
	wantWith(t, []api.Result{res(1, 0, 0)}, api.Result{}, []api.Result{{}, res(1, 0, 0)}, api.OK)
	for _, pair := range pairs() {
		low, high := plain(pair[0])[0], plain(pair[1])[0]
		wantWith(t, []api.Result{low}, high, []api.Result{low, high}, api.OK)
		wantWith(t, []api.Result{high}, low, []api.Result{low, high}, api.OK)
	}
}

func TestP8_5_Replaced(t *testing.T) {
	three := []api.Result{res(1, 9, 7), res(2, 9, 0), res(3, 9, 255)}
	for at, old := range three {
		for _, one := range []api.Result{
			{Action: old.Action, Root: idOf(8), Code: 1},
			{Action: old.Action, Root: old.Root, Code: 1},
			{Action: old.Action, Root: idOf(8), Code: old.Code},
			{Action: old.Action},
			old,
		} {
			wantWith(t, three, one, changed(three, at, func(place *api.Result) { *place = one }), api.OK)
			wantWith(t, []api.Result{old}, one, []api.Result{one}, api.OK)
		}
	}
}

func TestP8_5_EachPlaceOfAllSizes(t *testing.T) {
	for n := range 33 {
		results := numbered(n, 0x7ff1, 2)
		for at, between := range numbered(n+1, 0x7ff0, 2) {
			if n < 32 {
				wantWith(t, results, between, slices.Insert(slices.Clone(results), at, between), api.OK)
			} else {
				wantWith(t, results, between, nil, api.ErrActions)
			}
		}
		for at, old := range results {
			one := api.Result{Action: old.Action, Root: idOf(1), Code: 200}
			wantWith(t, results, one, changed(results, at, func(place *api.Result) { *place = one }), api.OK)
		}
	}
}

func TestP8_5_NoTable(t *testing.T) {
	for what, results := range noTables() {
		for _, one := range append([]api.Result{{}, res(77, 9, 7)}, results[0], results[len(results)-1]) {
			t.Run(what, func(t *testing.T) {
				wantWith(t, results, one, nil, api.ErrTable)
			})
		}
	}
}

// Not even where the one result in the way would be replaced.
func TestP8_5_WhatOffendsIsNotMended(t *testing.T) {
	wantWith(t, []api.Result{res(1, 9, 256)}, res(1, 9, 0), nil, api.ErrTable)
	wantWith(t, []api.Result{res(1, 9, 0), res(1, 8, 0)}, res(1, 9, 0), nil, api.ErrTable)
	wantWith(t, []api.Result{res(2, 9, 0), res(1, 9, 0)}, res(1, 9, 0), nil, api.ErrTable)
}

func TestP8_5_CodeOutOfBounds(t *testing.T) {
	for _, code := range []int{0, 1, 127, 128, 254, 255} {
		wantWith(t, nil, res(1, 9, code), []api.Result{res(1, 9, code)}, api.OK)
	}
	for _, code := range []int{-1, -256, 256, 257, 1 << 32, math.MaxInt, math.MinInt} {
		wantWith(t, nil, res(1, 9, code), nil, api.ErrTable)
		wantWith(t, []api.Result{res(1, 9, 0)}, res(1, 9, code), nil, api.ErrTable)
		wantWith(t, []api.Result{res(2, 9, 0)}, res(1, 9, code), nil, api.ErrTable)
	}
}

func TestP8_5_OrderOfErrors(t *testing.T) {
	great := numbered(32, 0, 2)
	above := idOf(255)
	wantWith(t, great, api.Result{Action: above}, nil, api.ErrActions)
	wantWith(t, great, api.Result{Action: above, Code: 256}, nil, api.ErrTable)
	wantWith(t, great, api.Result{Action: above, Code: -1}, nil, api.ErrTable)
	wantWith(t, swapped(great, 3), api.Result{Action: above}, nil, api.ErrTable)
	wantWith(t, numbered(33, 0, 2), api.Result{Action: above}, nil, api.ErrTable)
	wantWith(t, numbered(33, 0, 2), api.Result{}, nil, api.ErrTable)
	wantWith(t, great[:31], api.Result{Action: above}, append(slices.Clone(great[:31]), api.Result{Action: above}), api.OK)
}

func TestP8_5_AnyTable(t *testing.T) {
	r := noise()
	for range 5000 {
		results, one := noiseTable(r), noiseResult(r)
		if len(results) > 0 && r.IntN(2) == 0 {
			one.Action = results[r.IntN(len(results))].Action
		}
		want, errno := withByWords(results, one)
		wantWith(t, results, one, want, errno)
	}
}
