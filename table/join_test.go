package table_test

import (
	"math"
	"slices"
	"testing"

	"freight/api"
)

// policies are all that there are.
func policies() []int { return []int{1, 2, 3} }

// noPolicies are numbers that are none; some are one in their lowest byte, or
// would be as sets of them.
func noPolicies() []int {
	return []int{0, 4, 5, 6, 7, -1, -2, -3, 255, 256, 257, 258, 259, 1<<32 + 1, 1<<32 + 2, 1<<32 + 3, math.MaxInt, math.MinInt, math.MinInt + 1}
}

// unlike are the results with other roots and codes: each is in conflict.
func unlike(results []api.Result) []api.Result {
	others := slices.Clone(results)
	for i := range others {
		if i%2 == 0 {
			others[i].Root[31] ^= 128
		} else {
			others[i].Code ^= 1
		}
	}
	return others
}

func actions(results []api.Result) []api.ID {
	var all []api.ID
	for _, one := range results {
		all = append(all, one.Action)
	}
	return all
}

// small are all tables of three actions, each with none or one of four results.
func small() [][]api.Result {
	tables := [][]api.Result{nil}
	for _, action := range []api.ID{idTo(1), idOf(127, 255), idOf(128)} {
		for _, before := range slices.Clone(tables) {
			for _, root := range []api.ID{{}, idTo(9)} {
				for _, code := range []int{0, 255} {
					one := api.Result{Action: action, Root: root, Code: code}
					tables = append(tables, append(slices.Clone(before), one))
				}
			}
		}
	}
	return tables
}

func TestP8_6_AllSmallTables(t *testing.T) {
	tables := small()
	if len(tables) != 125 {
		t.Fatalf("%d tables", len(tables))
	}
	for _, ours := range tables {
		for _, theirs := range tables {
			for _, policy := range policies() {
				wantJoinAsTheWords(t, ours, theirs, policy)
			}
		}
	}
}

func TestP8_6_Empty(t *testing.T) {
	for _, results := range some() {
		for _, policy := range policies() {
			wantJoin(t, nil, results, policy, results, nil, api.OK)
			wantJoin(t, results, nil, policy, results, nil, api.OK)
		}
	}
}

func TestP8_6_LikeResultsAreNoConflict(t *testing.T) {
	for _, results := range some() {
		for _, policy := range policies() {
			wantJoin(t, results, slices.Clone(results), policy, results, nil, api.OK)
			wantJoin(t, results, results, policy, results, nil, api.OK)
		}
	}
}

func TestP8_6_NoConflict(t *testing.T) {
	odd, even := []api.Result{res(1, 9, 1), res(3, 9, 3), res(129, 9, 5)}, []api.Result{res(2, 8, 2), res(4, 8, 4), res(128, 8, 6)}
	union := []api.Result{odd[0], even[0], odd[1], even[1], even[2], odd[2]}
	below, above := odd, []api.Result{res(200, 1, 1), res(255, 2, 2)}
	for _, policy := range policies() {
		wantJoin(t, odd, even, policy, union, nil, api.OK)
		wantJoin(t, even, odd, policy, union, nil, api.OK)
		wantJoin(t, below, above, policy, slices.Concat(below, above), nil, api.OK)
		wantJoin(t, above, below, policy, slices.Concat(below, above), nil, api.OK)
		wantJoin(t, odd, union, policy, union, nil, api.OK)
		wantJoin(t, union, even, policy, union, nil, api.OK)
	}
}

// wantConflicts asks for each policy's answer, of tables whose unions by Keep
// and Take, and whose conflicts, are these.
func wantConflicts(t *testing.T, ours, theirs, keep, take []api.Result, conflicts ...api.ID) {
	t.Helper()
	wantJoin(t, ours, theirs, api.Keep, keep, conflicts, api.OK)
	wantJoin(t, ours, theirs, api.Take, take, conflicts, api.OK)
	wantJoin(t, ours, theirs, api.Fail, nil, conflicts, api.ErrConflict)
	wantJoin(t, theirs, ours, api.Keep, take, conflicts, api.OK)
	wantJoin(t, theirs, ours, api.Take, keep, conflicts, api.OK)
	wantJoin(t, theirs, ours, api.Fail, nil, conflicts, api.ErrConflict)
}

// Another root, another code, or both.
func TestP8_6_WhatAConflictIs(t *testing.T) {
	one := res(1, 9, 7)
	others := []api.Result{res(1, 9, 8), res(1, 9, 0), res(1, 9, 255), res(1, 8, 7), res(1, 0, 7), res(1, 8, 8), res(1, 10, 6)}
	for at := range 32 {
		other := one
		other.Root[at] ^= 128
		others = append(others, other)
	}
	for _, other := range others {
		wantConflicts(t, []api.Result{one}, []api.Result{other}, []api.Result{one}, []api.Result{other}, one.Action)
	}
	wantConflicts(t, []api.Result{{}}, []api.Result{{Code: 1}}, []api.Result{{}}, []api.Result{{Code: 1}}, api.ID{})
}

func TestP8_6_OneConflictAtEachPlace(t *testing.T) {
	ours := numbered(9, 0x7ffc, 1)
	for at, one := range ours {
		theirs := changed(ours, at, func(one *api.Result) { one.Root = idOf(8) })
		wantConflicts(t, ours, theirs, ours, theirs, one.Action)
		alone := theirs[at : at+1]
		wantConflicts(t, ours, alone, ours, theirs, one.Action)
	}
}

func TestP8_6_ManyConflicts(t *testing.T) {
	for n := 1; n <= 32; n++ {
		ours := numbered(n, 0x7ff0, 1)
		wantConflicts(t, ours, unlike(ours), ours, unlike(ours), actions(ours)...)
	}
	// Some of them in conflict, some alike, some of one side alone.
	ours := []api.Result{res(1, 9, 1), res(2, 9, 2), res(3, 9, 3), res(5, 9, 5), res(128, 9, 6), res(255, 9, 7)}
	theirs := []api.Result{res(0, 8, 0), res(1, 8, 1), res(2, 9, 2), res(4, 8, 4), res(5, 9, 6), res(128, 9, 6), res(200, 8, 9), res(255, 8, 8)}
	keep := []api.Result{theirs[0], ours[0], ours[1], ours[2], theirs[3], ours[3], ours[4], theirs[6], ours[5]}
	take := []api.Result{theirs[0], theirs[1], ours[1], ours[2], theirs[3], theirs[4], ours[4], theirs[6], theirs[7]}
	wantConflicts(t, ours, theirs, keep, take, idOf(1), idOf(5), idOf(255))
}

func TestP8_6_OrderOfActions(t *testing.T) {
	for _, pair := range pairs() {
		low, high := plain(pair[0]), plain(pair[1])
		both := plain(pair[0], pair[1])
		for _, policy := range policies() {
			wantJoin(t, low, high, policy, both, nil, api.OK)
			wantJoin(t, high, low, policy, both, nil, api.OK)
		}
		wantConflicts(t, both, unlike(both), both, unlike(both), pair[0], pair[1])
	}
}

func TestP8_6_NoPolicy(t *testing.T) {
	ours, theirs := []api.Result{res(1, 9, 7)}, []api.Result{res(1, 8, 7)}
	for _, policy := range noPolicies() {
		wantJoin(t, nil, nil, policy, nil, nil, api.ErrArg)
		wantJoin(t, ours, ours, policy, nil, nil, api.ErrArg)
		wantJoin(t, ours, theirs, policy, nil, nil, api.ErrArg)
		wantJoin(t, numbered(32, 0, 2), numbered(32, 1, 2), policy, nil, nil, api.ErrArg)
		for _, results := range noTables() {
			wantJoin(t, results, theirs, policy, nil, nil, api.ErrArg)
			wantJoin(t, ours, results, policy, nil, nil, api.ErrArg)
			wantJoin(t, results, results, policy, nil, nil, api.ErrArg)
		}
	}
}

// Ahead of a conflict and of too many actions, which there are beside it.
func TestP8_6_NoTable(t *testing.T) {
	for what, results := range noTables() {
		for _, policy := range policies() {
			t.Run(what, func(t *testing.T) {
				for _, other := range [][]api.Result{nil, {res(1, 1, 1)}, {res(77, 1, 1)}, numbered(32, 0, 1), numbered(32, 0x4000, 1), unlike(numbered(32, 0x100, 0x100))} {
					wantJoin(t, results, other, policy, nil, nil, api.ErrTable)
					wantJoin(t, other, results, policy, nil, nil, api.ErrTable)
				}
				wantJoin(t, results, results, policy, nil, nil, api.ErrTable)
				for _, other := range noTables() {
					wantJoin(t, results, other, policy, nil, nil, api.ErrTable)
				}
			})
		}
	}
}

func TestP8_6_HowMany(t *testing.T) {
	all := numbered(64, 0, 1)
	for _, policy := range policies() {
		for n := range 33 {
			wantJoin(t, all[:n], all[n:32], policy, all[:32], nil, api.OK)
			wantJoin(t, all[n:32], all[:n], policy, all[:32], nil, api.OK)
			wantJoin(t, all[:32], all[n:32], policy, all[:32], nil, api.OK)
			if n > 0 {
				wantJoin(t, all[:n], all[n:33], policy, nil, nil, api.ErrActions)
				wantJoin(t, all[n:33], all[:n], policy, nil, nil, api.ErrActions)
			}
		}
		wantJoin(t, all[:32], all[1:33], policy, nil, nil, api.ErrActions)
		wantJoin(t, all[1:33], all[:32], policy, nil, nil, api.ErrActions)
		wantJoin(t, all[:32], all[32:], policy, nil, nil, api.ErrActions)
		wantJoin(t, all[32:], all[:32], policy, nil, nil, api.ErrActions)
	}
	even, odd := numbered(16, 0, 2), numbered(17, 1, 2)
	wantJoinAsTheWords(t, even, odd[:16], api.Fail)
	wantJoin(t, even, odd, api.Fail, nil, nil, api.ErrActions)
	wantJoin(t, odd, even, api.Fail, nil, nil, api.ErrActions)
}

// As many as may be, though both tables together have more, or all are in conflict.
func TestP8_6_ManyOfBoth(t *testing.T) {
	great := numbered(32, 0x7ff0, 1)
	wantConflicts(t, great, unlike(great), great, unlike(great), actions(great)...)
	ours, theirs := great[:20], unlike(great)[12:]
	wantConflicts(t, ours, theirs, slices.Concat(ours, theirs[8:]), slices.Concat(ours[:12], theirs), actions(great[12:20])...)
}

func TestP8_6_OrderOfErrors(t *testing.T) {
	ours := numbered(32, 0, 2)
	theirs := []api.Result{{Root: idOf(1)}, res(1, 1, 1), res(255, 1, 1)}
	wantJoin(t, ours, theirs, api.Fail, nil, []api.ID{{}}, api.ErrConflict)
	wantJoin(t, theirs, ours, api.Fail, nil, []api.ID{{}}, api.ErrConflict)
	// Though there is a conflict, ErrActions tells nothing of it.
	wantJoin(t, ours, theirs, api.Keep, nil, nil, api.ErrActions)
	wantJoin(t, ours, theirs, api.Take, nil, nil, api.ErrActions)
	wantJoin(t, theirs, ours, api.Keep, nil, nil, api.ErrActions)
	wantJoin(t, theirs, ours, api.Take, nil, nil, api.ErrActions)
	wantJoin(t, ours, theirs[1:], api.Fail, nil, nil, api.ErrActions)
	// All conflicts are told, those too that stand behind too many results.
	last := slices.Concat(plain(idOf(0, 1)), unlike(ours)[31:])
	wantJoin(t, ours, last, api.Fail, nil, []api.ID{ours[31].Action}, api.ErrConflict)
	most := slices.Concat(unlike(ours)[:31], theirs[2:])
	wantJoin(t, ours, most, api.Fail, nil, actions(ours[:31]), api.ErrConflict)
	wantJoin(t, ours, most, api.Keep, nil, nil, api.ErrActions)
}

func TestP8_6_AnyTables(t *testing.T) {
	r := noise()
	met := map[api.Errno]int{}
	for range 10000 {
		ours, theirs := noiseTable(r), noiseTable(r)
		if r.IntN(3) == 0 {
			for i := range theirs {
				if len(ours) > 0 && r.IntN(2) == 0 {
					theirs[i] = ours[r.IntN(len(ours))]
				}
			}
			theirs = tableOf(mapOf(theirs))
		}
		policy := 1 + r.IntN(3)
		wantJoinAsTheWords(t, ours, theirs, policy)
		_, _, errno := joinByWords(ours, theirs, policy)
		met[errno]++
	}
	if met[api.OK] < 500 || met[api.ErrConflict] < 500 || met[api.ErrActions] < 50 {
		t.Errorf("how often each was met: %v", met)
	}
}

// listOf makes a list of any results out of bytes.
func listOf(data []byte) []api.Result {
	var results []api.Result
	for ; len(data) >= 3; data = data[3:] {
		results = append(results, api.Result{Action: idTo(data[0]), Root: idOf(data[1] % 2), Code: int(data[2]) - 1})
	}
	return results
}

func FuzzLists(f *testing.F) {
	f.Add([]byte{1, 9, 7, 2, 9, 1}, []byte{1, 8, 7, 3, 9, 1}, 1)
	f.Add([]byte{2, 9, 1, 1, 9, 2, 1, 9, 3}, []byte{1, 8, 0}, 3)
	f.Add([]byte{}, []byte{0, 0, 255, 128, 1, 1}, 2)
	f.Fuzz(func(t *testing.T, one, other []byte, policy int) {
		ours, theirs := listOf(one), listOf(other)
		wantJoinAsTheWords(t, ours, theirs, policy)
		for _, policy := range policies() {
			wantJoinAsTheWords(t, ours, theirs, policy)
		}
		for _, result := range theirs {
			want, errno := withByWords(ours, result)
			wantWith(t, ours, result, want, errno)
		}
		wantFoundAsTheWords(t, ours, actions(theirs)...)
	})
}
