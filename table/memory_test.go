package table_test

import (
	"bytes"
	"slices"
	"testing"

	"freight/api"
	"freight/table"
)

// roomy are results with spare room behind them that is not empty.
func roomy(results []api.Result) []api.Result {
	whole := append(slices.Clone(results), slices.Repeat([]api.Result{{Action: full(0xaa), Root: full(0xaa), Code: 0xaa}}, 40)...)
	return whole[:len(results)]
}

func roomyBytes(data []byte) []byte {
	whole := append(bytes.Clone(data), bytes.Repeat([]byte("spare"), 40)...)
	return whole[:len(data)]
}

func scribble(results []api.Result) {
	for i := range results[:cap(results)] {
		results[:cap(results)][i] = api.Result{Action: full(0xee), Root: full(0xee), Code: 0xee}
	}
}

func scribbleIDs(ids []api.ID) {
	for i := range ids[:cap(ids)] {
		ids[:cap(ids)][i] = full(0xee)
	}
}

func scribbleBytes(data []byte) {
	for i := range data[:cap(data)] {
		data[:cap(data)][i] = 0xee
	}
}

// handedIn are tables and what is none.
func handedIn() [][]api.Result {
	all := some()
	for _, results := range noTables() {
		all = append(all, results)
	}
	return all
}

// wantUntouched asks that a call leaves a list as it was, spare room too.
func wantUntouched(t *testing.T, what string, results []api.Result, call func(in []api.Result)) {
	t.Helper()
	in := roomy(results)
	before := slices.Clone(in[:cap(in)])
	call(in)
	if !slices.Equal(in[:cap(in)], before) {
		t.Errorf("%s: what was handed in is %s, was %s", what, told(in[:cap(in)]...), told(before...))
	}
}

func TestP8_7_ListsAreUntouched(t *testing.T) {
	extra := []api.Result{{}, res(1, 8, 1), res(2, 9, 0), res(77, 9, 7), {Action: full(255)}, res(1, 1, 256)}
	for _, results := range handedIn() {
		wantUntouched(t, "Valid", results, func(in []api.Result) { table.Valid(in) })
		wantUntouched(t, "Encode", results, func(in []api.Result) { table.Encode(in) })
		for _, one := range extra {
			wantUntouched(t, "Find", results, func(in []api.Result) { table.Find(in, one.Action) })
			wantUntouched(t, "With", results, func(in []api.Result) { table.With(in, one) })
		}
		for _, other := range append(handedIn(), unlike(results)) {
			for policy := range 5 {
				wantUntouched(t, "Join, ours", results, func(ours []api.Result) {
					wantUntouched(t, "Join, theirs", other, func(theirs []api.Result) { table.Join(ours, theirs, policy) })
				})
			}
		}
		wantUntouched(t, "Join with itself", results, func(in []api.Result) { table.Join(in, in, api.Take) })
	}
}

func TestP8_7_BytesAreUntouched(t *testing.T) {
	for _, results := range handedIn() {
		for _, data := range [][]byte{writtenByWords(results), writtenByWords(results)[1:], append(writtenByWords(results), 0)} {
			in := roomyBytes(data)
			before := bytes.Clone(in[:cap(in)])
			table.Parse(in)
			if !bytes.Equal(in[:cap(in)], before) {
				t.Errorf("Parse: what was handed in is % x, was % x", in[:cap(in)], before)
			}
		}
	}
}

// What is handed in is written over behind each call, and so is what another
// call answered; the answer stays.
func TestP8_7_EncodeIsNewMemory(t *testing.T) {
	for _, results := range some() {
		in := roomy(results)
		first, second := mustEncode(t, in), mustEncode(t, in)
		scribbleBytes(first)
		if !slices.Equal(in, results) {
			t.Errorf("Encode: an answer written over changes what was handed in: %s", told(in...))
		}
		scribble(in)
		if !bytes.Equal(second, writtenByWords(results)) {
			t.Errorf("Encode(%s), all else written over: % x", told(results...), second)
		}
	}
}

func TestP8_7_ParseIsNewMemory(t *testing.T) {
	for _, want := range some() {
		in := roomyBytes(writtenByWords(want))
		first, _ := table.Parse(in)
		second, errno := table.Parse(in)
		scribble(first)
		if !bytes.Equal(in, writtenByWords(want)) {
			t.Errorf("Parse: an answer written over changes what was handed in: % x", in)
		}
		scribbleBytes(in)
		if errno != api.OK || !slices.Equal(second, want) {
			t.Errorf("Parse, all else written over: %s, %d; want %s", told(second...), errno, told(want...))
		}
	}
}

func TestP8_7_WithIsNewMemory(t *testing.T) {
	for _, results := range some() {
		for _, one := range append([]api.Result{{}, res(1, 8, 1), res(77, 9, 7), {Action: full(255)}}, results...) {
			want, errno := withByWords(results, one)
			if errno != api.OK {
				continue
			}
			in := roomy(results)
			first, _ := table.With(in, one)
			second, _ := table.With(in, one)
			scribble(first)
			if !slices.Equal(in[:cap(in)], roomy(results)[:cap(in)]) {
				t.Errorf("With: an answer written over changes what was handed in: %s", told(in...))
			}
			scribble(in)
			if !slices.Equal(second, want) {
				t.Errorf("With(%s, %s), all else written over: %s", told(results...), told(one), told(second...))
			}
		}
	}
}

// wantJoinAlone asks that of one call's two lists, another call's and those
// that were handed in none shares memory with another.
func wantJoinAlone(t *testing.T, ours, theirs []api.Result, policy int) {
	t.Helper()
	want, wantConflicts, _ := joinByWords(ours, theirs, policy)
	inOurs, inTheirs := roomy(ours), roomy(theirs)
	union, conflicts, _ := table.Join(inOurs, inTheirs, policy)
	another, anothers, _ := table.Join(inOurs, inTheirs, policy)
	scribble(another)
	scribbleIDs(anothers)
	if !slices.Equal(inOurs[:cap(inOurs)], roomy(ours)[:cap(inOurs)]) || !slices.Equal(inTheirs[:cap(inTheirs)], roomy(theirs)[:cap(inTheirs)]) {
		t.Errorf("Join: an answer written over changes what was handed in: %s, %s", told(inOurs...), told(inTheirs...))
	}
	scribble(inOurs)
	scribble(inTheirs)
	if !slices.Equal(union, want) || !slices.Equal(conflicts, wantConflicts) {
		t.Errorf("Join(%s, %s, %d), all else written over: %s, %s", told(ours...), told(theirs...), policy, told(union...), toldIDs(conflicts...))
	}
	scribble(union)
	if !slices.Equal(conflicts, wantConflicts) {
		t.Errorf("Join(%s, %s, %d), its table written over: %s", told(ours...), told(theirs...), policy, toldIDs(conflicts...))
	}
	union, conflicts, _ = table.Join(ours, theirs, policy)
	scribbleIDs(conflicts)
	if !slices.Equal(union, want) {
		t.Errorf("Join(%s, %s, %d), its conflicts written over: %s", told(ours...), told(theirs...), policy, told(union...))
	}
}

func TestP8_7_JoinIsNewMemory(t *testing.T) {
	for _, ours := range some() {
		for _, policy := range policies() {
			for _, theirs := range append(some(), unlike(ours)) {
				wantJoinAlone(t, ours, theirs, policy)
			}
		}
	}
}

// One list handed in for both, and parts of one list for the two of them.
func TestP8_7_ListsThatShare(t *testing.T) {
	whole := numbered(32, 0, 1)
	for n := range 33 {
		for _, policy := range policies() {
			in := roomy(whole)
			joined, _, _ := table.Join(in[:n], in[n:], policy)
			if !slices.Equal(in[:cap(in)], roomy(whole)[:cap(in)]) {
				t.Errorf("Join: what was handed in is %s", told(in...))
			}
			scribble(in)
			if !slices.Equal(joined, whole) {
				t.Errorf("Join of two parts of a list: %s", told(joined...))
			}
			in = roomy(whole)
			joined, _, _ = table.Join(in[:n], in[:n], policy)
			scribble(in)
			if !slices.Equal(joined, whole[:n]) {
				t.Errorf("Join of a list with itself: %s", told(joined...))
			}
		}
	}
}
