package restore_test

import (
	"fmt"
	"slices"
	"testing"

	"freight/api"
	"freight/restore"
)

// wantPick asks for what the words say: the results, or that error and none.
func wantPick(t testing.TB, what string, results []api.Result, actions []api.ID) said {
	t.Helper()
	want, refused := pickByWords(results, actions)
	got, err := restore.Pick(results, actions)
	wantFault(t, what, err, "restore.pick", "", refused)
	if !slices.Equal(got, want) {
		t.Errorf("%s: %v, want %v", what, got, want)
	}
	return refused
}

// wantNoPick asks for that error.
func wantNoPick(t testing.TB, what string, results []api.Result, actions []api.ID, code api.Errno, id api.ID) {
	t.Helper()
	if got := wantPick(t, what, results, actions); got != (said{code, id}) {
		t.Errorf("%s: the words say %d of %x, want %d of %x", what, got.code, got.id[:3], code, id[:3])
	}
}

// five are results of the actions 1, 3, 5, 7, 9, whose roots are not in order, two
// of them alike, two codes too.
func five() []api.Result {
	return []api.Result{res(1, api.ID{7}, 0), res(3, api.ID{2}, 255), res(5, api.ID{7}, 1), res(7, api.ID{}, 1), res(9, api.ID{1}, 9)}
}

// noTables are results that are no table.
func noTables() map[string][]api.Result {
	list := five()
	backwards := slices.Clone(list)
	slices.Reverse(backwards)
	last := list[4]
	other := last
	other.Code = 1
	return map[string][]api.Result{
		"backwards":            backwards,
		"two that fall":        {list[0], list[2], list[1]},
		"one twice":            {list[0], list[0]},
		"the last twice":       append(slices.Clone(list), last),
		"an action twice":      append(slices.Clone(list), other),
		"the zero action":      {{}, {}},
		"unlike at their end":  {{Action: api.ID{5, 31: 2}}, {Action: api.ID{5, 31: 1}}},
		"33 of them":           resultsFrom(1, 33, api.ID{}),
		"100 of them":          resultsFrom(1, 100, api.ID{}),
		"66, each twice":       append(resultsFrom(1, 33, api.ID{}), resultsFrom(1, 33, api.ID{})...),
		"the code -1":          {res(1, api.ID{}, -1)},
		"the code 256":         {list[0], res(2, api.ID{}, 256)},
		"the code 1 << 32":     {res(1, api.ID{}, 1<<32)},
		"the least code":       {res(1, api.ID{}, -1<<63)},
		"the last one's code":  append(slices.Clone(list), res(200, api.ID{}, 1<<62)),
		"the code of the 33rd": append(resultsFrom(1, 32, api.ID{}), res(200, api.ID{}, 256)),
	}
}

// Of whatever actions: of none, of some that are there, of some that are not.
func TestP17_1_NoTable(t *testing.T) {
	for what, results := range noTables() {
		for _, actions := range [][]api.ID{nil, acts(1), acts(0), acts(5, 1, 5), acts(2, 4), acts(255, 1, 0), actionsOf(results...)} {
			wantNoPick(t, what, results, actions, api.ErrArg, api.ID{})
		}
	}
}

// Each set of the actions, in each order of its turns, once and several times.
func TestP17_1_Sets(t *testing.T) {
	list := five()
	for set := range 1 << len(list) {
		chosen := some(list, set)
		actions := actionsOf(chosen...)
		backwards := slices.Clone(actions)
		slices.Reverse(backwards)
		orders := [][]api.ID{backwards, slices.Concat(actions, actions), slices.Concat(backwards, actions, backwards)}
		for k := range actions {
			orders = append(orders, slices.Concat(actions[k:], actions[:k]))
		}
		for _, order := range append(orders, actions) {
			got, err := restore.Pick(list, order)
			if err != nil || !slices.Equal(got, chosen) {
				t.Errorf("set %d, %v: %v, %v, want %v", set, order, got, err, chosen)
			}
			wantNoPick(t, "a set", list, order, api.OK, api.ID{})
		}
	}
}

// The least of the actions that have no result is named, wherever it stands.
func TestP17_1_TheLeast(t *testing.T) {
	list := five()
	for _, x := range []struct {
		actions []api.ID
		least   api.ID
	}{
		{acts(2), act(2)},
		{acts(0), act(0)},
		{acts(255), act(255)},
		{acts(4, 2, 1), act(2)},
		{acts(2, 4, 1), act(2)},
		{acts(1, 3, 5, 7, 9, 10), act(10)},
		{acts(10, 9, 8, 7, 6, 5, 4, 3, 1), act(4)},
		{acts(200, 100, 50, 100, 200), act(50)},
		{[]api.ID{{1, 31: 1}, {2}}, api.ID{1, 31: 1}},
		{[]api.ID{{5, 31: 2}, {5, 31: 1}, {5}}, api.ID{5, 31: 1}},
		{[]api.ID{{8, 1}, {8, 0, 255}, {8, 0, 254, 9}}, api.ID{8, 0, 254, 9}},
		{[]api.ID{{255, 31: 255}, {}, {1}}, api.ID{}},
	} {
		wantNoPick(t, fmt.Sprint(x.actions), list, x.actions, api.ErrNoAction, x.least)
		backwards := slices.Clone(x.actions)
		slices.Reverse(backwards)
		wantNoPick(t, fmt.Sprint(backwards), list, slices.Concat(backwards, x.actions), api.ErrNoAction, x.least)
		wantNoPick(t, "no results", nil, x.actions, api.ErrNoAction, rising(x.actions...)[0])
	}
}

func TestP17_1_None(t *testing.T) {
	wantNoPick(t, "none of none", nil, nil, api.OK, api.ID{})
	wantNoPick(t, "none of five", five(), nil, api.OK, api.ID{})
	wantNoPick(t, "one of none", nil, acts(1), api.ErrNoAction, act(1))
	wantNoPick(t, "the zero one of none", nil, acts(0), api.ErrNoAction, act(0))
	wantNoPick(t, "the zero one", []api.Result{{}}, acts(0, 0), api.OK, api.ID{})
}

// As many results as a table may have; all of them, and each one beside another
// that lacks.
func TestP17_1_All(t *testing.T) {
	full := resultsFrom(100, 32, api.ID{3})
	all := actionsOf(full...)
	wantNoPick(t, "all", full, all, api.OK, api.ID{})
	for k := range full {
		wantNoPick(t, "one", full, all[k:k+1], api.OK, api.ID{})
		wantNoPick(t, "all from one on", full, all[k:], api.OK, api.ID{})
		wantNoPick(t, "one and another", full, append(acts(99), all[k]), api.ErrNoAction, act(99))
		wantNoPick(t, "all but one", slices.Delete(slices.Clone(full), k, k+1), all, api.ErrNoAction, all[k])
	}
}

// Whatever stands in actions and roots, each result is told as it was.
func TestP17_1_AnyBytes(t *testing.T) {
	list := []api.Result{
		{},
		{Action: api.ID{31: 1}, Root: api.ID{255, 31: 255}, Code: 255},
		{Action: api.ID{0, 255, 31: 9}, Code: 1},
		{Action: api.ID{1}, Root: api.ID{31: 1}, Code: 128},
		{Action: api.ID{255, 31: 254}},
		{Action: api.ID{255, 31: 255}},
	}
	for set := range 1 << len(list) {
		wantNoPick(t, "any bytes", list, actionsOf(some(list, set)...), api.OK, api.ID{})
	}
}

func TestP17_1_ManyActions(t *testing.T) {
	var actions []api.ID
	for i := range 100000 {
		actions = append(actions, five()[i*7%5].Action)
	}
	wantNoPick(t, "100000", five(), actions, api.OK, api.ID{})
	for i := range 100000 {
		actions[i] = api.ID{5, byte(i), byte(i >> 8), byte(i >> 16), 1}
	}
	wantNoPick(t, "100000 that lack", five(), actions, api.ErrNoAction, api.ID{5, 4: 1})
}

func TestP17_1_Drawn(t *testing.T) {
	r := noise()
	met := map[api.Errno]int{}
	for range 20000 {
		var results []api.Result
		for first := range 40 {
			if r.IntN(3) == 0 {
				results = append(results, res(byte(first), api.ID{byte(r.IntN(4))}, r.IntN(256)))
			}
		}
		if len(results) > 1 && r.IntN(4) == 0 {
			k := r.IntN(len(results) - 1)
			results[k], results[k+1] = results[k+1], results[k]
		}
		var actions []api.ID
		for range r.IntN(8) {
			if len(results) > 0 && r.IntN(6) > 0 {
				actions = append(actions, results[r.IntN(len(results))].Action)
			} else {
				actions = append(actions, act(byte(r.IntN(40))))
			}
		}
		met[wantPick(t, "drawn", results, actions).code]++
	}
	for _, code := range []api.Errno{api.OK, api.ErrArg, api.ErrNoAction} {
		if met[code] < 1000 {
			t.Errorf("%d is met %d times", code, met[code])
		}
	}
}
