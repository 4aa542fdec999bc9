package reach_test

import (
	"slices"
	"testing"

	"freight/api"
	"freight/reach"
)

// rowOf are n ids of one row.
func rowOf(row byte, n int) []api.ID {
	var ids []api.ID
	for i := range n {
		ids = append(ids, api.ID{row, byte(i >> 8), byte(i)})
	}
	return ids
}

// naming is a tree that names all these ids, of one kind.
func naming(kind int, ids []api.ID) []byte {
	var entries []api.Entry
	for _, id := range ids {
		entries = append(entries, entry(kind, id))
	}
	return written(entries...)
}

// Rows of 32 trees, each of which names all of the next row: there are 32
// times as many paths to each further row, a thousand million to the last one.
func ladder(rows int) (reach.Map, []api.ID) {
	m := reach.Map{}
	var all []api.ID
	for row := range rows {
		for _, id := range rowOf(byte(row), 32) {
			m[id] = naming(api.KindFolder, rowOf(byte(row+1), 32))
			all = append(all, id)
		}
	}
	for _, id := range rowOf(byte(rows-1), 32) {
		m[id] = treeOf()
	}
	return m, all
}

func TestP9_8_ManyPaths(t *testing.T) {
	m, all := ladder(6)
	wantNeed(t, m, rootsOf(rowOf(0, 32)...), all)
	wantAsked(t, blind(m, nil), rootsOf(rowOf(0, 32)...), all)
	m, all = ladder(7)
	wantNoNeed(t, m, rootsOf(rowOf(0, 32)...), api.ErrDeep, api.ID{6})
	wantAsked(t, blind(m, nil), rootsOf(rowOf(0, 32)...), all)
}

// Trees all of which name all of them, themselves too.
func TestP9_8_AllNameAll(t *testing.T) {
	ids := rowOf(5, 32)
	m := reach.Map{}
	for _, id := range ids {
		m[id] = naming(api.KindFolder, ids)
	}
	wantNoNeed(t, m, rootsOf(ids[9]), api.ErrDeep, ids[0])
	wantLacks(t, m, rootsOf(ids[9]), nil)
	row := append([]api.ID{ids[9]}, slices.Concat(ids[:9], ids[10:])...)
	wantAsked(t, blind(m, nil), rootsOf(ids[9]), row)
	wantAsked(t, blind(m, nil), rootsOf(append(ids, ids...)...), ids)
}

// One great circle: it is asked for as far as the need goes, not further.
func TestP9_8_GreatCircle(t *testing.T) {
	ids := rowOf(1, 300)
	m := reach.Map{}
	for i, id := range ids {
		m[id] = naming(api.KindFolder, []api.ID{ids[(i+1)%len(ids)]})
	}
	wantAsked(t, blind(m, nil), rootsOf(ids[0]), ids[:7])
	wantNoNeed(t, m, rootsOf(ids[0]), api.ErrDeep, ids[6])
	wantAsked(t, blind(m, nil), rootsOf(ids...), ids)
	wantNoNeed(t, m, rootsOf(ids...), api.ErrDeep, ids[0])
}

// One id under all names of a tree, and in many trees.
func TestP9_8_OneIDManyNames(t *testing.T) {
	m := reach.Map{letter("z"): treeOf()}
	ids := rowOf(2, 300)
	for i, id := range ids {
		m[id] = naming(1+i%3, slices.Repeat(letters("z"), 32))
	}
	wantNeed(t, m, rootsOf(ids...), append(slices.Clone(ids), letter("z")))
	wantAsked(t, blind(m, nil), rootsOf(ids...), append(slices.Clone(ids), letter("z")))
}

// Many results of one root.
func TestP9_8_OneRootManyResults(t *testing.T) {
	results := rootsOf(slices.Repeat(letters("a"), 50000)...)
	wantNeed(t, example(), results, letters("abcd"))
	wantAsked(t, blind(example(), nil), results, letters("abcd"))
}

// Whatever a source is: no id is asked for twice.
func TestP9_8_NeverTwice(t *testing.T) {
	r := noise()
	for range 3000 {
		ids := pool(2 + r.IntN(20))
		l := draw(r.IntN, ids)
		results := drawResults(r.IntN, ids)
		for op, ask := range calls() {
			l.asked = nil
			ask(l, results...)
			if n := len(union(l.asked, nil)); n != len(l.asked) {
				t.Errorf("%s: %d times asked for %d ids", op, len(l.asked), n)
			}
		}
	}
}

// endless has a tree for every id, with other ids in it: a call ends behind
// MaxDepth rounds.
type endless struct{ asked int }

func (e *endless) Get(id api.ID) ([]byte, error) {
	e.asked++
	next := id
	next[0]++
	other := next
	other[1+int(next[0])%31]++
	return naming(api.KindFolder, []api.ID{next, other}), nil
}

func TestW1_EndlessSourceEnds(t *testing.T) {
	for op, ask := range calls() {
		e := &endless{}
		_, err := ask(e, rootsOf(api.ID{})...)
		if op == "reach.need" {
			wantFault(t, op, err, op, api.ID{tooDeep - 1}, api.ErrDeep)
		} else if err != nil {
			t.Errorf("%s: %v", op, err)
		}
		if e.asked != 127 {
			t.Errorf("%s: asked %d times, want 1 + 2 + 4 and so on to 64", op, e.asked)
		}
	}
}
