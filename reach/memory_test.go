package reach_test

import (
	"bytes"
	"slices"
	"testing"

	"freight/api"
	"freight/reach"
)

// roomyBytes are these bytes, with spare room behind them that has bytes too.
func roomyBytes(data []byte) []byte {
	return append(bytes.Clone(data), "spare room"...)[:len(data)]
}

func roomy(results []api.Result) []api.Result {
	spare := []api.Result{{Root: letter("s"), Code: 1}, {Root: letter("t"), Code: 2}}
	return slices.Concat(results, spare)[:len(results)]
}

func scribbleBytes(data []byte) {
	for i := range data[:cap(data)] {
		data[:cap(data)][i] = 0xee
	}
}

func scribbleIDs(ids []api.ID) {
	for i := range ids[:cap(ids)] {
		ids[:cap(ids)][i] = letter("?")
	}
}

// open hands out the memory that it keeps.
type open struct{ m reach.Map }

func (o open) Get(id api.ID) ([]byte, error) {
	data, there := o.m[id]
	if !there {
		return nil, api.ErrNoBlob
	}
	return data, nil
}

// roomyMap is a Map all of whose bytes have spare room.
func roomyMap(m reach.Map) reach.Map {
	copied := reach.Map{}
	for id, data := range m {
		copied[id] = roomyBytes(data)
	}
	return copied
}

// isAsBefore: the same ids with the same bytes, spare room too.
func isAsBefore(m, before reach.Map) bool {
	if len(m) != len(before) {
		return false
	}
	for id, data := range before {
		got, there := m[id]
		if !there || len(got) != len(data) || !bytes.Equal(got[:len(data)+10], data[:len(data)+10]) {
			return false
		}
	}
	return true
}

// inputs are sources and results for each answer.
func inputs() map[string]struct {
	m       reach.Map
	results []api.Result
} {
	type input = struct {
		m       reach.Map
		results []api.Result
	}
	return map[string]input{
		"answered": {example(), roots("ba")},
		"none":     {example(), nil},
		"no tree":  {example(), roots("dca")},
		"deep":     {chain(8), roots("cba")},
		"missing":  {without(example(), letters("bd")...), roots("xaa")},
		"circle":   {reach.Map{letter("f"): treeOf("f/")}, roots("ff")},
		"nothing":  {reach.Map{}, roots("yx")},
	}
}

func TestP9_9_ResultsAreUntouched(t *testing.T) {
	for what, in := range inputs() {
		for op, ask := range calls() {
			results := roomy(in.results)
			before := slices.Clone(results[:cap(results)])
			ask(in.m, results...)
			if !slices.Equal(results[:cap(results)], before) {
				t.Errorf("%s: %s: the results have changed", what, op)
			}
		}
	}
}

func TestP9_9_MapIsUntouched(t *testing.T) {
	for what, in := range inputs() {
		for op, ask := range calls() {
			m := roomyMap(in.m)
			ask(m, in.results...)
			if !isAsBefore(m, roomyMap(in.m)) {
				t.Errorf("%s: %s: the Map has changed", what, op)
			}
			ask(open{m}, in.results...)
			if !isAsBefore(m, roomyMap(in.m)) {
				t.Errorf("%s: %s: the source's bytes have changed", what, op)
			}
		}
	}
}

func TestP9_9_GetLeavesTheMap(t *testing.T) {
	m := roomyMap(example())
	for _, id := range letters("abcdef") {
		m.Get(id)
	}
	if !isAsBefore(m, roomyMap(example())) {
		t.Error("Get: the Map has changed")
	}
}

// What was handed in is written over behind a call, and so is another answer;
// the answer stays.
func TestP9_9_AnswersAreNewMemory(t *testing.T) {
	for what, in := range inputs() {
		for op, ask := range calls() {
			m, results := roomyMap(in.m), roomy(in.results)
			want, _ := ask(in.m, in.results...)
			want = slices.Clone(want)
			first, _ := ask(open{m}, results...)
			second, err := ask(open{m}, results...)
			scribbleIDs(first)
			if !isAsBefore(m, roomyMap(in.m)) || !slices.Equal(results, in.results) {
				t.Errorf("%s: %s: an answer written over changes what was handed in", what, op)
			}
			for _, data := range m {
				scribbleBytes(data)
			}
			clear(m)
			clear(results)
			if !slices.Equal(second, want) {
				t.Errorf("%s: %s: all else written over: %s, %v; want %s", what, op, told(second...), err, told(want...))
			}
		}
	}
}

// What one call found is not kept for the next one, of the same source.
func TestP9_9_NothingIsKept(t *testing.T) {
	m := example()
	wantNeed(t, m, roots("a"), letters("abcd"))
	m[letter("b")] = treeOf("c", "e")
	wantNoNeed(t, m, roots("a"), api.ErrMissing, letter("e"))
	wantLacks(t, m, roots("a"), letters("e"))
	m[letter("e")] = nil
	wantNeed(t, m, roots("a"), letters("abce"))
	delete(m, letter("c"))
	wantLacks(t, m, roots("a"), letters("c"))
}

// thrifty hands out one piece of memory again and again.
type thrifty struct {
	m    reach.Map
	room []byte
}

func (s *thrifty) Get(id api.ID) ([]byte, error) {
	data, there := s.m[id]
	if !there {
		return nil, api.ErrNoBlob
	}
	s.room = append(s.room[:0], data...)
	return s.room, nil
}

// A source's bytes are read when they come, not later.
func TestP9_9_SourceThatWritesItsBytesOver(t *testing.T) {
	for what, in := range inputs() {
		for op, ask := range calls() {
			want, wantErr := ask(in.m, in.results...)
			got, err := ask(&thrifty{m: in.m}, in.results...)
			if !slices.Equal(got, want) || api.Code(err) != api.Code(wantErr) || idIn(err) != idIn(wantErr) {
				t.Errorf("%s: %s: %s, %v; want %s, %v", what, op, told(got...), err, told(want...), wantErr)
			}
		}
	}
}
