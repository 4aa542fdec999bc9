package table_test

import (
	"bytes"
	"encoding/hex"
	"fmt"
	"math/rand/v2"
	"slices"
	"strings"
	"testing"

	"freight/api"
	"freight/table"
)

// noise is the same row of numbers in every run.
func noise() *rand.Rand { return rand.New(rand.NewPCG(8, 2081)) }

func unhex(t testing.TB, text string) []byte {
	t.Helper()
	data, err := hex.DecodeString(strings.ReplaceAll(text, " ", ""))
	if err != nil {
		t.Fatal(err)
	}
	return data
}

// idOf has these bytes in front, and noughts behind them.
func idOf(front ...byte) (id api.ID) {
	copy(id[:], front)
	return id
}

// idTo has these bytes at its end, and noughts ahead of them.
func idTo(end ...byte) (id api.ID) {
	copy(id[len(id)-len(end):], end)
	return id
}

// full has 32 bytes b.
func full(b byte) api.ID { return api.ID(bytes.Repeat([]byte{b}, 32)) }

// res is a result whose action and root have these first bytes.
func res(action, root byte, code int) api.Result {
	return api.Result{Action: idOf(action), Root: idOf(root), Code: code}
}

// plain are results of these actions, alike but for them.
func plain(actions ...api.ID) []api.Result {
	var results []api.Result
	for _, action := range actions {
		results = append(results, api.Result{Action: action, Root: idOf(9), Code: 7})
	}
	return results
}

// numbered are n results, of the actions first, first + step, and so on (as
// two bytes in front).
func numbered(n, first, step int) []api.Result {
	var results []api.Result
	for i := range n {
		v := first + i*step
		results = append(results, api.Result{Action: idOf(byte(v>>8), byte(v)), Root: idOf(9, byte(i)), Code: i % 256})
	}
	return results
}

// changed is a copy of results, with one of them changed.
func changed(results []api.Result, at int, how func(one *api.Result)) []api.Result {
	copied := slices.Clone(results)
	how(&copied[at])
	return copied
}

// swapped is a copy of results, with two neighbours in each other's place.
func swapped(results []api.Result, at int) []api.Result {
	copied := slices.Clone(results)
	copied[at], copied[at+1] = copied[at+1], copied[at]
	return copied
}

func noiseID(r *rand.Rand) (id api.ID) {
	for i := range id {
		id[i] = byte(r.Uint32())
	}
	return id
}

// noiseAction is one of few, so that tables have some in common: they part in
// the first byte, in the last one, or between.
func noiseAction(r *rand.Rand) api.ID {
	some := []byte{0, 1, 127, 128, 255}
	id := full(some[r.IntN(2)*4])
	id[[]int{0, 7, 31}[r.IntN(3)]] = some[r.IntN(5)]
	id[[]int{0, 31}[r.IntN(2)]] = some[r.IntN(5)]
	return id
}

// noiseResult has one of few roots and codes.
func noiseResult(r *rand.Rand) api.Result {
	root := []api.ID{{}, idOf(9), idTo(9), full(255)}[r.IntN(4)]
	return api.Result{Action: noiseAction(r), Root: root, Code: []int{0, 1, 128, 255}[r.IntN(4)]}
}

// noiseTable is any table.
func noiseTable(r *rand.Rand) []api.Result {
	all := map[api.ID]api.Result{}
	for range r.IntN(1 + r.IntN(33)) {
		one := noiseResult(r)
		if r.IntN(4) == 0 {
			one.Action, one.Root = noiseID(r), noiseID(r)
		}
		all[one.Action] = one
	}
	return tableOf(all)
}

// some tables, among them an empty one and the greatest.
func some() [][]api.Result {
	r := noise()
	tables := [][]api.Result{nil, {{}}, {res(1, 9, 7)}, {res(1, 9, 7), res(2, 9, 0), res(255, 8, 255)}, numbered(32, 0, 1), numbered(32, 0x7f00, 8)}
	for range 5 {
		tables = append(tables, noiseTable(r))
	}
	return tables
}

// noTables are lists that are no tables, each for one reason.
func noTables() map[string][]api.Result {
	three := []api.Result{res(1, 9, 7), res(2, 9, 0), res(3, 8, 255)}
	return map[string][]api.Result{
		"one too many":    numbered(33, 0, 1),
		"many":            numbered(500, 0, 1),
		"code below":      changed(three, 1, func(one *api.Result) { one.Code = -1 }),
		"code above":      changed(three, 2, func(one *api.Result) { one.Code = 256 }),
		"falling":         swapped(three, 0),
		"falling at last": swapped(three, 1),
		"twice":           {three[0], three[0]},
		"twice, unlike":   {three[0], three[1], changed(three, 1, func(one *api.Result) { one.Root = idOf(8) })[1]},
		"alone":           {res(0, 0, 1000)},
	}
}

// told are results in short: of ids the noughts at the end are left out.
func told(results ...api.Result) string {
	var texts []string
	for _, one := range results {
		texts = append(texts, fmt.Sprintf("(%s, %s, %d)", toldIDs(one.Action), toldIDs(one.Root), one.Code))
	}
	return "[" + strings.Join(texts, " ") + "]"
}

func toldIDs(ids ...api.ID) string {
	var texts []string
	for _, id := range ids {
		texts = append(texts, fmt.Sprintf("%x..", bytes.TrimRight(id[:], "\x00")))
	}
	return strings.Join(texts, " ")
}

func mustEncode(t testing.TB, results []api.Result) []byte {
	t.Helper()
	data, errno := table.Encode(results)
	if errno != api.OK {
		t.Fatalf("Encode(%s): %d", told(results...), errno)
	}
	return data
}

// wantTable asks that results are a table, and of its form.
func wantTable(t testing.TB, results []api.Result, want []byte) {
	t.Helper()
	if !table.Valid(results) {
		t.Errorf("Valid(%s): false", told(results...))
	}
	data, errno := table.Encode(results)
	if errno != api.OK || !bytes.Equal(data, want) {
		t.Errorf("Encode(%s): % x, %d; want % x, OK", told(results...), data, errno, want)
	}
}

func wantNoTable(t testing.TB, what string, results []api.Result) {
	t.Helper()
	if table.Valid(results) {
		t.Errorf("%s: Valid(%s): true", what, told(results...))
	}
	data, errno := table.Encode(results)
	if errno != api.ErrTable || len(data) != 0 {
		t.Errorf("%s: Encode(%s): % x, %d; want nothing, ErrTable", what, told(results...), data, errno)
	}
}

func wantParsed(t testing.TB, data []byte, want []api.Result) {
	t.Helper()
	results, errno := table.Parse(data)
	if errno != api.OK || !slices.Equal(results, want) {
		t.Errorf("Parse(% x): %s, %d; want %s, OK", data, told(results...), errno, told(want...))
	}
}

func wantNotParsed(t testing.TB, what string, data []byte) {
	t.Helper()
	results, errno := table.Parse(data)
	if errno != api.ErrTable || len(results) != 0 {
		t.Errorf("%s: Parse(% x): %s, %d; want nothing, ErrTable", what, data, told(results...), errno)
	}
}

// wantReadAsTheWords holds Parse of any bytes against the words of the chapter.
func wantReadAsTheWords(t testing.TB, data []byte) {
	t.Helper()
	if want, is := readByWords(data); is {
		wantParsed(t, data, want)
	} else {
		wantNotParsed(t, "by the words no table", data)
	}
}

func wantFound(t testing.TB, results []api.Result, action api.ID, want api.Result) {
	t.Helper()
	one, found := table.Find(results, action)
	if !found || one != want {
		t.Errorf("Find(%s, %s): %s, %v; want %s, true", told(results...), toldIDs(action), told(one), found, told(want))
	}
}

func wantNotFound(t testing.TB, results []api.Result, action api.ID) {
	t.Helper()
	one, found := table.Find(results, action)
	if found || one != (api.Result{}) {
		t.Errorf("Find(%s, %s): %s, %v; want a zero Result, false", told(results...), toldIDs(action), told(one), found)
	}
}

// wantWith is With's whole answer; with an error no results are wanted.
func wantWith(t testing.TB, results []api.Result, one api.Result, want []api.Result, wantErrno api.Errno) {
	t.Helper()
	got, errno := table.With(results, one)
	if errno != wantErrno || !slices.Equal(got, want) {
		t.Errorf("With(%s, %s): %s, %d; want %s, %d", told(results...), told(one), told(got...), errno, told(want...), wantErrno)
	}
}

// wantJoin is Join's whole answer.
func wantJoin(t testing.TB, ours, theirs []api.Result, policy int, want []api.Result, wantConflicts []api.ID, wantErrno api.Errno) {
	t.Helper()
	got, conflicts, errno := table.Join(ours, theirs, policy)
	if errno != wantErrno || !slices.Equal(got, want) || !slices.Equal(conflicts, wantConflicts) {
		t.Errorf("Join(%s, %s, %d): %s, %s, %d; want %s, %s, %d", told(ours...), told(theirs...), policy,
			told(got...), toldIDs(conflicts...), errno, told(want...), toldIDs(wantConflicts...), wantErrno)
	}
}

func wantJoinAsTheWords(t testing.TB, ours, theirs []api.Result, policy int) {
	t.Helper()
	want, conflicts, errno := joinByWords(ours, theirs, policy)
	wantJoin(t, ours, theirs, policy, want, conflicts, errno)
}
