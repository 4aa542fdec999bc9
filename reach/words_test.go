package reach_test

import (
	"errors"
	"slices"
	"testing"

	"freight/api"
	"freight/reach"
	"freight/tree"
)

// The limit of depth, and the depth behind it, written out.
const (
	lastDepth = 6
	tooDeep   = 7
)

// isBelow tells which of two ids is ahead of the other: the first byte in
// which they are unlike says it.
func isBelow(a, b api.ID) bool {
	for i := range 32 {
		if a[i] != b[i] {
			return a[i] < b[i]
		}
	}
	return false
}

// rising are the ids of a map, each put ahead of the first one that is above it.
func rising(ids map[api.ID]bool) []api.ID {
	var all []api.ID
	for id := range ids {
		at := 0
		for at < len(all) && isBelow(all[at], id) {
			at++
		}
		all = slices.Insert(all, at, id)
	}
	return all
}

// words is what the chapter says of some results in a source that is known
// whole.
type words struct {
	l      *ledger
	depths [tooDeep + 1]map[api.ID]bool
	need   map[api.ID]bool
}

func (w words) isThere(id api.ID) bool {
	_, fails := w.l.errors[id]
	_, has := w.l.blobs[id]
	return has && !fails
}

// lacks: a blob that the ledger simply has not is ErrNoBlob, too.
func (w words) lacks(id api.ID) bool {
	err, fails := w.l.errors[id]
	if fails {
		return api.Code(err) == api.ErrNoBlob || api.Code(err) == api.ErrDamage
	}
	return !w.isThere(id)
}

func (w words) cannotLook(id api.ID) bool { return !w.isThere(id) && !w.lacks(id) }

func (w words) isTree(id api.ID) bool {
	_, errno := tree.Parse(w.l.blobs[id])
	return errno == api.OK
}

func inWords(l *ledger, results []api.Result) words {
	w := words{l: l, need: map[api.ID]bool{}}
	for k := range w.depths {
		w.depths[k] = map[api.ID]bool{}
	}
	for _, result := range results {
		w.depths[1][result.Root] = true
	}
	for k := 1; k <= lastDepth; k++ {
		for id := range w.depths[k] {
			w.open(id, k)
		}
	}
	for k := 1; k <= tooDeep; k++ {
		for id := range w.depths[k] {
			w.need[id] = true
		}
	}
	return w
}

func (w words) open(id api.ID, depth int) {
	if !w.isThere(id) || !w.isTree(id) {
		return
	}
	entries, _ := tree.Parse(w.l.blobs[id])
	for _, one := range entries {
		w.need[one.ID] = true
		if one.Kind == 3 {
			w.depths[depth+1][one.ID] = true
		}
	}
}

// asked is the order of asking, up to the first id at which the source cannot
// look.
func (w words) asked() []api.ID {
	var row []api.ID
	rounds := append(slices.Clone(w.depths[1:tooDeep]), w.need)
	for _, round := range rounds {
		for _, id := range rising(round) {
			if slices.Contains(row, id) {
				continue
			}
			row = append(row, id)
			if w.cannotLook(id) {
				return row
			}
		}
	}
	return row
}

// blindAt is where the source could not look.
func (w words) blindAt() (api.ID, bool) {
	row := w.asked()
	if len(row) == 0 {
		return api.ID{}, false
	}
	last := row[len(row)-1]
	return last, w.cannotLook(last)
}

func (w words) noTrees() []api.ID {
	ids := map[api.ID]bool{}
	for k := 1; k <= lastDepth; k++ {
		for id := range w.depths[k] {
			if w.isThere(id) && !w.isTree(id) {
				ids[id] = true
			}
		}
	}
	return rising(ids)
}

func (w words) lacking() []api.ID {
	ids := map[api.ID]bool{}
	for id := range w.need {
		if w.lacks(id) {
			ids[id] = true
		}
	}
	return rising(ids)
}

// refusal is why Need answers no ids, behind a source that cannot look; OK: it
// answers them.
func (w words) refusal() (api.Errno, api.ID) {
	if ids := w.noTrees(); len(ids) > 0 {
		return api.ErrNoTree, ids[0]
	}
	if ids := rising(w.depths[tooDeep]); len(ids) > 0 {
		return api.ErrDeep, ids[0]
	}
	if ids := w.lacking(); len(ids) > 0 {
		return api.ErrMissing, ids[0]
	}
	return api.OK, api.ID{}
}

// wantAsTheWords holds both calls, and what they ask for, against the chapter;
// and tells what Need was refused with.
func wantAsTheWords(t testing.TB, l *ledger, results []api.Result) api.Errno {
	t.Helper()
	w := inWords(l, results)
	wantAsked(t, l, results, w.asked())
	if id, is := w.blindAt(); is {
		wantBlind(t, l, results, l.errors[id], id)
		return api.Code(l.errors[id])
	}
	wantLacks(t, l, results, w.lacking())
	errno, id := w.refusal()
	if errno != api.OK {
		wantNoNeed(t, l, results, errno, id)
		return errno
	}
	wantNeed(t, l, results, rising(w.need))
	return api.OK
}

// smallBlobs are all that one of three ids may be: lacking, damage, such that
// the source cannot look, no tree, and each tree that names any of the three
// as a file or as a folder.
func smallBlobs(ids []api.ID) []func(l *ledger, id api.ID) {
	kinds := []func(l *ledger, id api.ID){
		func(l *ledger, id api.ID) {},
		func(l *ledger, id api.ID) { l.errors[id] = api.ErrDamage },
		func(l *ledger, id api.ID) { l.errors[id] = api.ErrOff },
		func(l *ledger, id api.ID) { l.blobs[id] = []byte("bad") },
	}
	for shape := range 27 {
		var entries []api.Entry
		for i, id := range ids {
			digit := []int{shape % 3, shape / 3 % 3, shape / 9}[i]
			if digit > 0 {
				entries = append(entries, entry([]int{0, api.KindFile, api.KindFolder}[digit], id))
			}
		}
		data := written(entries...)
		kinds = append(kinds, func(l *ledger, id api.ID) { l.blobs[id] = data })
	}
	return kinds
}

// All sources of three ids.
func TestP9_2_P9_3_AllSmallSources(t *testing.T) {
	ids := letters("abc")
	kinds := smallBlobs(ids)
	seen := map[api.Errno]int{}
	for i := range len(kinds) * len(kinds) * len(kinds) {
		l := &ledger{blobs: reach.Map{}, errors: map[api.ID]error{}}
		kinds[i%len(kinds)](l, ids[0])
		kinds[i/len(kinds)%len(kinds)](l, ids[1])
		kinds[i/len(kinds)/len(kinds)](l, ids[2])
		seen[wantAsTheWords(t, l, roots([]string{"a", "c", "ba"}[i%3]))]++
	}
	wantAllSeen(t, seen)
}

// wantAllSeen asks that the tests have met each answer often.
func wantAllSeen(t *testing.T, seen map[api.Errno]int) {
	t.Helper()
	for _, errno := range []api.Errno{api.OK, api.ErrOff, api.ErrNoTree, api.ErrDeep, api.ErrMissing} {
		if seen[errno] < 100 {
			t.Errorf("%d was answered %d times", errno, seen[errno])
		}
	}
}

// pool are ids that part in the first byte, in the last one, and between.
func pool(n int) []api.ID {
	ids := map[api.ID]bool{{}: true}
	r := noise()
	for len(ids) < n {
		var id api.ID
		if r.IntN(2) == 0 {
			for i := range id {
				id[i] = 255
			}
		}
		id[[]int{0, 1, 15, 31}[r.IntN(4)]] = byte(r.IntN(256))
		id[[]int{0, 31}[r.IntN(2)]] ^= byte(r.IntN(3))
		ids[id] = true
	}
	return rising(ids)
}

// draw makes a source out of numbers: of each id of the pool, what it is and
// what it names. A tree names as folders most often what stands behind it in
// the row, so that some needs are whole.
func draw(number func(n int) int, ids []api.ID) *ledger {
	l := &ledger{blobs: reach.Map{}, errors: map[api.ID]error{}}
	bad := 2 + number(60)
	row := slices.Clone(ids)
	for i := range row {
		j := i + number(len(row)-i)
		row[i], row[j] = row[j], row[i]
	}
	for i, id := range row {
		switch number(bad) {
		case 0:
			drawFault(number, l, id)
		case 1:
			l.blobs[id] = []byte("T")
		default:
			l.blobs[id] = drawTree(number, row, i)
		}
	}
	return l
}

func drawFault(number func(n int) int, l *ledger, id api.ID) {
	faults := []error{
		nil, api.ErrNoBlob, api.ErrDamage, api.ErrNoBlob, api.ErrOff, errors.New("no number"),
		&api.Fault{Op: "x", Err: api.ErrDamage}, &api.Fault{Op: "x", Err: &api.Fault{Op: "y", Err: api.ErrBlock}},
	}
	if err := faults[number(len(faults))]; err != nil {
		l.errors[id] = err
	}
}

func drawTree(number func(n int) int, row []api.ID, at int) []byte {
	var entries []api.Entry
	for range number(5) {
		kind := 1 + number(3)
		from := 0
		if kind == api.KindFolder && number(8) > 0 {
			from = min(at+1+number(3), len(row)-1)
		}
		entries = append(entries, entry(kind, row[from+number(len(row)-from)]))
	}
	return written(entries...)
}

func drawResults(number func(n int) int, ids []api.ID) []api.Result {
	var results []api.Result
	for range number(4) {
		root := ids[number(len(ids))]
		results = append(results, api.Result{Action: ids[number(len(ids))], Root: root, Code: number(256)})
	}
	return results
}

func TestP9_2_P9_3_AnySources(t *testing.T) {
	r := noise()
	seen := map[api.Errno]int{}
	for range 8000 {
		ids := pool(2 + r.IntN(20))
		seen[wantAsTheWords(t, draw(r.IntN, ids), drawResults(r.IntN, ids))]++
	}
	wantAllSeen(t, seen)
}

// taken hands out numbers by the bytes of a row, and noughts behind its end.
func taken(data []byte) func(n int) int {
	return func(n int) int {
		if len(data) == 0 || n <= 1 {
			return 0
		}
		number := int(data[0]) % n
		data = data[1:]
		return number
	}
}

func FuzzSources(f *testing.F) {
	r := noise()
	for _, n := range []int{0, 1, 10, 50, 200, 500} {
		data := make([]byte, n)
		for i := range data {
			data[i] = byte(r.IntN(256))
		}
		f.Add(data, byte(n))
	}
	f.Fuzz(func(t *testing.T, data []byte, n byte) {
		number := taken(data)
		ids := pool(1 + int(n)%24)
		results := drawResults(number, ids)
		wantAsTheWords(t, draw(number, ids), results)
	})
}
