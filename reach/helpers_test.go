package reach_test

import (
	"bytes"
	"errors"
	"fmt"
	"math/rand/v2"
	"slices"
	"strings"
	"testing"

	"freight/api"
	"freight/reach"
	"freight/tree"
)

// noise is the same row of numbers in every run.
func noise() *rand.Rand { return rand.New(rand.NewPCG(9, 602)) }

// letter is the id that the chapter's examples write so: a ahead of b.
func letter(text string) api.ID { return api.ID{text[0]} }

func letters(text string) []api.ID {
	var ids []api.ID
	for i := range len(text) {
		ids = append(ids, letter(text[i:]))
	}
	return ids
}

// rootsOf are results with these roots, of unlike actions and codes.
func rootsOf(ids ...api.ID) []api.Result {
	var results []api.Result
	for i, id := range ids {
		results = append(results, api.Result{Action: api.ID{byte(200 - i)}, Root: id, Code: i})
	}
	return results
}

// roots are results with letters for roots.
func roots(text string) []api.Result { return rootsOf(letters(text)...) }

// treeOf is a tree: "b/" is a folder b, "b*" a run b, "b" a file b.
func treeOf(names ...string) []byte {
	var entries []api.Entry
	for _, name := range names {
		entries = append(entries, entry(kindOf(name), letter(name)))
	}
	return written(entries...)
}

func kindOf(name string) int {
	switch {
	case strings.HasSuffix(name, "/"):
		return api.KindFolder
	case strings.HasSuffix(name, "*"):
		return api.KindRun
	}
	return api.KindFile
}

func entry(kind int, id api.ID) api.Entry { return api.Entry{Kind: kind, ID: id} }

// written gives the entries their names, and is their tree.
func written(entries ...api.Entry) []byte {
	for i := range entries {
		entries[i].Name = fmt.Sprintf("%02d", i)
	}
	data, errno := tree.Encode(entries)
	if errno != api.OK {
		panic(fmt.Sprintf("no tree of %d entries: %d", len(entries), errno))
	}
	return data
}

// example is the chapter's m.
func example() reach.Map {
	return reach.Map{letter("a"): treeOf("b/", "c"), letter("b"): treeOf("d"), letter("c"): {1}, letter("d"): {}}
}

// without is a copy that has not these ids.
func without(m reach.Map, ids ...api.ID) reach.Map {
	copied := reach.Map{}
	for id, data := range m {
		if !slices.Contains(ids, id) {
			copied[id] = data
		}
	}
	return copied
}

// with is a copy that has these bytes for that id.
func with(m reach.Map, id api.ID, data []byte) reach.Map {
	copied := without(m)
	copied[id] = data
	return copied
}

// chain are n trees from a on, each a folder of the one ahead.
func chain(n int) reach.Map {
	m := reach.Map{}
	for i := range n {
		m[api.ID{byte('a' + i)}] = written(entry(api.KindFolder, api.ID{byte('a' + i + 1)}))
	}
	m[api.ID{byte('a' + n - 1)}] = written()
	return m
}

// ledger is a source that writes down what it is asked for, and has errors in
// the place of some blobs.
type ledger struct {
	blobs  reach.Map
	errors map[api.ID]error
	asked  []api.ID
}

func (l *ledger) Get(id api.ID) ([]byte, error) {
	l.asked = append(l.asked, id)
	if err, is := l.errors[id]; is {
		return nil, err
	}
	data, there := l.blobs[id]
	if !there {
		return nil, api.ErrNoBlob
	}
	return data, nil
}

// blind is m, but for some ids it has this error.
func blind(m reach.Map, err error, ids ...api.ID) *ledger {
	l := &ledger{blobs: m, errors: map[api.ID]error{}}
	for _, id := range ids {
		l.errors[id] = err
	}
	return l
}

// call is Need or Lacks.
type call func(s reach.Source, results ...api.Result) ([]api.ID, error)

func calls() map[string]call {
	return map[string]call{"reach.need": reach.Need, "reach.lacks": reach.Lacks}
}

// told are ids in short: a letter alone stands as it is, noughts at the end
// are left out.
func told(ids ...api.ID) string {
	var texts []string
	for _, id := range ids {
		front := bytes.TrimRight(id[:], "\x00")
		if len(front) == 1 && front[0] > 32 && front[0] < 127 {
			texts = append(texts, string(front))
		} else {
			texts = append(texts, fmt.Sprintf("%x..", front))
		}
	}
	return "[" + strings.Join(texts, " ") + "]"
}

// wantFault asks for the fault of that call, id and number.
func wantFault(t testing.TB, what string, err error, op string, id api.ID, want api.Errno) {
	t.Helper()
	fault, is := err.(*api.Fault)
	if !is || fault == nil {
		t.Errorf("%s: %v (%T), want a fault with %d of %s", what, err, err, want, told(id))
		return
	}
	if fault.Op != op || fault.Name != "" || fault.ID != id || api.Code(err) != want {
		t.Errorf("%s: %q %q %s %d, want %q, no name, %s, %d", what, fault.Op, fault.Name, told(fault.ID), api.Code(err), op, told(id), want)
	}
	if want > 0 && !errors.Is(err, want) {
		t.Errorf("%s: errors.Is does not find %d in %v", what, want, err)
	}
}

// wantIDs asks for an answer without an error.
func wantIDs(t testing.TB, what string, got []api.ID, err error, want []api.ID) {
	t.Helper()
	if err != nil || !slices.Equal(got, want) {
		t.Errorf("%s: %s, %v (of %s); want %s", what, told(got...), err, told(idIn(err)), told(want...))
	}
}

// idIn is the id of a fault.
func idIn(err error) api.ID {
	var fault *api.Fault
	if errors.As(err, &fault) && fault != nil {
		return fault.ID
	}
	return api.ID{}
}

func wantNeed(t testing.TB, s reach.Source, results []api.Result, want []api.ID) {
	t.Helper()
	got, err := reach.Need(s, results...)
	wantIDs(t, "Need", got, err, want)
}

func wantLacks(t testing.TB, s reach.Source, results []api.Result, want []api.ID) {
	t.Helper()
	got, err := reach.Lacks(s, results...)
	wantIDs(t, "Lacks", got, err, want)
}

func wantNoNeed(t testing.TB, s reach.Source, results []api.Result, want api.Errno, id api.ID) {
	t.Helper()
	got, err := reach.Need(s, results...)
	wantFault(t, "Need", err, "reach.need", id, want)
	if got != nil {
		t.Errorf("Need: refused, but it tells %s", told(got...))
	}
}

// wantBlind asks both calls for the error of a source that cannot look.
func wantBlind(t testing.TB, s reach.Source, results []api.Result, want error, id api.ID) {
	t.Helper()
	for op, ask := range calls() {
		got, err := ask(s, results...)
		wantFault(t, op, err, op, id, api.Code(want))
		if !errors.Is(err, want) {
			t.Errorf("%s: errors.Is does not find %v in %v", op, want, err)
		}
		if got != nil {
			t.Errorf("%s: refused, but it tells %s", op, told(got...))
		}
	}
}

// wantAsked asks for the row of ids that each call asks a source for.
func wantAsked(t testing.TB, l *ledger, results []api.Result, want []api.ID) {
	t.Helper()
	for op, ask := range calls() {
		l.asked = nil
		ask(l, results...)
		if !slices.Equal(l.asked, want) {
			t.Errorf("%s asks for %s, want %s", op, told(l.asked...), told(want...))
		}
	}
}
