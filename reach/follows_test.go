package reach_test

import (
	"math"
	"slices"
	"testing"

	"freight/api"
	"freight/reach"
)

// wantSame asks both calls for the same answers, and their source for the same
// row.
func wantSame(t *testing.T, what string, l *ledger, one, other []api.Result) {
	t.Helper()
	for op, ask := range calls() {
		l.asked = nil
		first, firstErr := ask(l, one...)
		asked := l.asked
		l.asked = nil
		second, secondErr := ask(l, other...)
		if !slices.Equal(first, second) || api.Code(firstErr) != api.Code(secondErr) || idIn(firstErr) != idIn(secondErr) || !slices.Equal(asked, l.asked) {
			t.Errorf("%s: %s: %s, %v, asked for %s; else %s, %v, asked for %s", what, op,
				told(first...), firstErr, told(asked...), told(second...), secondErr, told(l.asked...))
		}
	}
}

func TestP9_4_OrderAndDoubles(t *testing.T) {
	r := noise()
	for range 2000 {
		ids := pool(2 + r.IntN(16))
		l := draw(r.IntN, ids)
		results := drawResults(r.IntN, ids)
		turned := slices.Clone(results)
		slices.Reverse(turned)
		wantSame(t, "turned", l, results, turned)
		wantSame(t, "doubled", l, results, slices.Concat(results, turned, results))
	}
}

func TestP9_4_ActionsAndCodes(t *testing.T) {
	r := noise()
	numbers := []int{0, 1, -1, 255, 256, math.MaxInt, math.MinInt}
	for range 2000 {
		ids := pool(2 + r.IntN(16))
		l := draw(r.IntN, ids)
		results := drawResults(r.IntN, ids)
		others := slices.Clone(results)
		for i := range others {
			others[i].Action, others[i].Code = ids[r.IntN(len(ids))], numbers[r.IntN(len(numbers))]
		}
		wantSame(t, "others", l, results, others)
	}
}

// An action is no root, though it be the id of a blob.
func TestP9_4_OnlyTheRootIsLookedAt(t *testing.T) {
	one := api.Result{Action: letter("a"), Root: letter("b"), Code: -7}
	wantNeed(t, example(), []api.Result{one}, letters("bd"))
	wantAsked(t, blind(example(), nil), []api.Result{one}, letters("bd"))
}

// More results than a table may have, in no order.
func TestP9_4_ManyResults(t *testing.T) {
	m := reach.Map{}
	var ids []api.ID
	for i := range 300 {
		id := api.ID{byte(i >> 8), byte(i)}
		m[id] = treeOf()
		ids = append(ids, id)
	}
	falling := slices.Clone(ids)
	slices.Reverse(falling)
	wantNeed(t, m, rootsOf(append(falling, ids...)...), ids)
}

// Where Need answers: what is needed is closed, and nothing is beside it.
func wantClosed(t *testing.T, l *ledger, results []api.Result, need []api.ID) {
	t.Helper()
	just := reach.Map{}
	for _, id := range need {
		data, there := l.blobs[id]
		if _, fails := l.errors[id]; fails || !there {
			t.Fatalf("%s of the need is not there", told(id))
		}
		just[id] = data
	}
	for _, result := range results {
		if !slices.Contains(need, result.Root) {
			t.Errorf("the root %s is not in the need %s", told(result.Root), told(need...))
		}
	}
	wantNeed(t, just, results, need)
	for _, id := range need {
		wantNoNeed(t, without(just, id), results, api.ErrMissing, id)
		wantLacks(t, without(just, id), results, []api.ID{id})
	}
	more := with(with(just, api.ID{3, 1}, treeOf("x/")), api.ID{3, 2}, []byte("bad"))
	wantNeed(t, more, results, need)
	whole := without(l.blobs)
	for id := range l.errors {
		delete(whole, id)
	}
	wantNeed(t, whole, results, need)
}

func TestP9_5_JustTheNeed(t *testing.T) {
	r := noise()
	answered := 0
	for range 4000 {
		ids := pool(2 + r.IntN(16))
		l := draw(r.IntN, ids)
		results := drawResults(r.IntN, ids)
		need, err := reach.Need(l, results...)
		if err == nil && len(need) > 0 {
			wantClosed(t, l, results, need)
			answered++
		}
	}
	if answered < 500 {
		t.Errorf("%d of 4000 were answered", answered)
	}
}

// Each that is a root or a folder's is a tree, and all that it names is needed.
func TestP9_5_TreesAndWhatTheyName(t *testing.T) {
	m := reach.Map{letter("a"): treeOf("b/", "c"), letter("b"): treeOf("d/", "e*"), letter("c"): treeOf("x"), letter("d"): treeOf("c", "f"), letter("e"): {}, letter("f"): []byte("T")}
	wantNeed(t, m, roots("a"), letters("abcdef"))
	for _, tree := range letters("abd") {
		wantNoNeed(t, with(m, tree, []byte("bad")), roots("a"), api.ErrNoTree, tree)
	}
	for _, blob := range letters("cef") {
		wantNeed(t, with(m, blob, []byte("bad")), roots("a"), letters("abcdef"))
	}
}

func union(one, other []api.ID) []api.ID {
	all := map[api.ID]bool{}
	for _, id := range slices.Concat(one, other) {
		all[id] = true
	}
	return rising(all)
}

func TestP9_6_Union(t *testing.T) {
	r := noise()
	answered, apart := 0, 0
	for range 6000 {
		ids := pool(2 + r.IntN(16))
		l := draw(r.IntN, ids)
		some, others := drawResults(r.IntN, ids), drawResults(r.IntN, ids)
		one, oneErr := reach.Need(l, some...)
		other, otherErr := reach.Need(l, others...)
		if oneErr != nil || otherErr != nil {
			continue
		}
		both := union(one, other)
		wantNeed(t, l, slices.Concat(some, others), both)
		wantNeed(t, l, slices.Concat(others, some), both)
		answered++
		if len(both) > len(one) && len(both) > len(other) {
			apart++
		}
	}
	if answered < 500 || apart < 100 {
		t.Errorf("%d of 6000 were answered, %d with needs of their own", answered, apart)
	}
}

// Lacks beside what Need tells.
func wantLacksBesideNeed(t *testing.T, l *ledger, results []api.Result) api.Errno {
	t.Helper()
	_, needErr := reach.Need(l, results...)
	lacking, err := reach.Lacks(l, results...)
	code := api.Code(needErr)
	switch {
	case code == api.OK && (len(lacking) > 0 || err != nil):
		t.Errorf("Need answers, Lacks tells %s, %v", told(lacking...), err)
	case code == api.ErrMissing && (err != nil || len(lacking) == 0 || lacking[0] != idIn(needErr)):
		t.Errorf("Need lacks %s, Lacks tells %s, %v", told(idIn(needErr)), told(lacking...), err)
	case err != nil && (code != api.Code(err) || idIn(needErr) != idIn(err)):
		t.Errorf("Need: %v, Lacks: %v", needErr, err)
	}
	return code
}

func TestP9_7_LacksBesideNeed(t *testing.T) {
	r := noise()
	seen := map[api.Errno]int{}
	for range 8000 {
		ids := pool(2 + r.IntN(16))
		seen[wantLacksBesideNeed(t, draw(r.IntN, ids), drawResults(r.IntN, ids))]++
	}
	wantAllSeen(t, seen)
}

// With all that lacks laid there, as trees without entries, nothing lacks.
func TestP9_7_EmptyJustIfNothingLacks(t *testing.T) {
	r := noise()
	filled := 0
	for range 4000 {
		ids := pool(2 + r.IntN(16))
		l := draw(r.IntN, ids)
		results := drawResults(r.IntN, ids)
		lacking, err := reach.Lacks(l, results...)
		if err != nil || len(lacking) == 0 {
			continue
		}
		for _, id := range lacking {
			delete(l.errors, id)
			l.blobs[id] = treeOf()
		}
		wantLacks(t, l, results, nil)
		if _, err := reach.Need(l, results...); api.Code(err) == api.ErrMissing {
			t.Errorf("nothing lacks, but Need says %v of %s", err, told(idIn(err)))
		}
		filled++
	}
	if filled < 300 {
		t.Errorf("something lacked %d times of 4000", filled)
	}
}
