package depot_test

import (
	"fmt"
	"maps"
	"slices"
	"testing"

	"freight/api"
	"freight/depot"
)

// trial is a clean script: a depot, and the ledger of what it holds.
type trial struct {
	ledger  ledger
	depot   *depot.Depot
	blobs   []string
	bundles []string
	met     map[string]int
}

// newTrial has caches with much and with little in them: a of few goods, b nearly full
// of blobs, c nearly full of results; and bundles to be written as files.
func newTrial(t testing.TB, width, room int) *trial {
	t.Helper()
	s := newScript(t, width, api.MaxRoom)
	x := &trial{ledger: newLedger(width), blobs: s.blobs, bundles: s.bundles, met: map[string]int{}}
	g := stock(width)
	if deep := (goods{width, append(chain(width, 7, crate), g.blobs...), g.results}); len(deep.byID()) == len(deep.blobs) {
		g = deep
	}
	x.ledger.stow("a", g)
	x.ledger.stow("b", goods{width: width, blobs: append(strangers(width, 126, x.blobs...), crate)})
	x.ledger.stow("c-1", goods{width, []string{emptyTree, clashOrCrate(width)}, resultsFrom(40, 31, idOf(width, emptyTree))})
	x.ledger.files = map[string]string{"x": stock(width).bundle(16), "y": crate + pallet, "u": g.part(g.results[1]).bundle(64)}
	x.depot = x.ledger.load(t, room)
	return x
}

// clashOrCrate clashes with the crate, where the width is narrow.
func clashOrCrate(width int) string {
	if width == 1 {
		return clash(1, crate)
	}
	return crate
}

// drawn is a step of a clean script.
func (x *trial) drawn(choose choice) api.Step {
	s := (&script{width: x.ledger.width, blobs: x.blobs, bundles: x.bundles}).drawn(choose)
	if s.Kind == api.StepHand || s.Kind == api.StepCrash || s.Kind == api.StepPlan {
		s.Kind = pick(choose, api.StepImport, api.StepRestore, api.StepSet, api.StepPut, api.StepDrop, api.StepExport)
	}
	s.File = title(choose, "x", "x", "u", "y", "z", "s", "t")
	if s.Kind == api.StepWrite && len(s.Data) > 4000 {
		s.Data = s.Data[:4000]
	}
	for _, title := range x.ledger.titles() {
		if open := x.ledger.cache(title).open; open != nil && choose(3) == 0 {
			return pick(choose, resume(title), resume(title), resume(title), abandon(title), abandon(title), write(open.file, pick(choose, x.bundles...)), erase(open.file))
		}
	}
	return s
}

// step does a drawn step, and asks for what the promises say of it, however it ends.
func (x *trial) step(t testing.TB, choose choice) string {
	t.Helper()
	if choose(4) == 0 {
		wantDone(t, x.depot, planning(api.Plan{Off: pick(choose, 0, 1+choose(6), 1+choose(45)), From: choose(20), To: choose(40)}))
	}
	return x.do(t, x.drawn(choose), choose)
}

func (x *trial) do(t testing.TB, s api.Step, choose choice) string {
	t.Helper()
	after := x.ledger.clone()
	want := after.do(s)
	got := x.depot.Do(s)
	what := name(s) + " -> " + brief(got)
	switch {
	case x.depot.Disk().Off():
		if !sameAnswer(got, api.Answer{Code: api.ErrOff}) || want.Code != api.OK {
			t.Fatalf("%s, though the power went off: want %s", what, brief(want))
		}
		picks := []int{choose(9)}
		for range choose(160) {
			picks = append(picks, choose(90))
		}
		wantDone(t, x.depot, crash(picks...))
		x.settle(t, what, s, got.Code, after)
		x.met["cut off: "+rowOf(s.Kind).name]++
	case got.Code == api.ErrFull || got.Code == api.ErrFiles:
		if want.Code != api.OK {
			t.Fatalf("%s, want %s", what, brief(want))
		}
		x.settle(t, what, s, got.Code, after)
		x.met["no room: "+rowOf(s.Kind).name]++
	case s.Kind == api.StepResume && x.isOther(s.Cache):
		if got.Code != api.OK && got.Code != api.ErrOther {
			t.Fatalf("%s, of another bundle", what)
		}
		x.settle(t, what, s, got.Code, after)
		x.met["another bundle"]++
	default:
		if !sameAnswer(got, want) {
			t.Fatalf("%s, want %s", what, brief(want))
		}
		x.ledger = after
		x.met[fmt.Sprint(rowOf(max(min(s.Kind, lastKind), 0)).name, " ", int(got.Code))]++
	}
	if got.Code == api.OK {
		wantSafe(t, what, x.depot, choose)
	}
	return what
}

// isOther tells whether the bundle of an open import is not as it was.
func (x *trial) isOther(title string) bool {
	open := x.ledger.cache(title).open
	return open != nil && x.ledger.files[open.file] != open.data
}

// wantSafe is P0.12, of a drawn crash.
func wantSafe(t testing.TB, what string, d *depot.Depot, choose choice) {
	t.Helper()
	left := d.Disk().Twin()
	left.Crash(choose(9), choose(90), choose(90), choose(90))
	if !sameFiles(left.Files(), d.Disk().Files()) {
		t.Fatalf("%s: a crash leaves %s, want %s", what, show(left.Files()), show(d.Disk().Files()))
	}
}

// settle asks for what a step may have left that was cut off (ErrOff: a crash has come),
// refused for room, or resumed from another bundle, and takes that into the ledger. The
// ledger after is what it would have left at once.
func (x *trial) settle(t testing.TB, what string, s api.Step, code api.Errno, after ledger) {
	t.Helper()
	before := x.ledger.clone()
	if rowOf(s.Kind).titles[0] == 'C' {
		x.settleCache(t, what, s, code, after.cache(s.Cache))
	}
	for title := range merged(before.files, after.files) {
		data, is := shown(x.depot.Disk(), "f."+title)
		old, was := before.files[title]
		fresh, will := after.files[title]
		asWas, asWill := is == was && data == old, is == will && data == fresh
		if !asWas && !(asWill && code == api.ErrOff) {
			t.Fatalf("%s: f.%s is %.20q (there %t)", what, title, data, is)
		}
		if !asWas {
			x.met["the new file"]++
		}
		delete(x.ledger.files, title)
		if is {
			x.ledger.files[title] = data
		}
	}
	wantLedger(t, what, x.depot, x.ledger)
}

func merged(one, other map[string]string) map[string]string {
	both := maps.Clone(one)
	maps.Copy(both, other)
	return both
}

// settleCache is P0.4 of the step's cache, and what P0.5 and P0.6 say of an import that
// is open there.
func (x *trial) settleCache(t testing.TB, what string, s api.Step, code api.Errno, after held) {
	t.Helper()
	before, now := x.ledger.cache(s.Cache), heldBy(t, what, x.depot, s.Cache, x.ledger.width)
	isOpen := isOpen(x.depot, s.Cache)
	mayBe := map[api.Errno]bool{api.OK: now.isLike(after), api.ErrOff: now.isLike(before) || now.isLike(after)}
	switch isLike, is := mayBe[code]; {
	case isOpen && (s.Kind == api.StepImport || s.Kind == api.StepRestore) && before.open == nil:
		now.open = &begun{s.File, x.ledger.files[s.File], before.clone(), after.clone()}
		x.met["left open"]++
	case isOpen:
		now.open = before.open
		if now.open == nil {
			t.Fatalf("%s: an import is open", what)
		}
	case is && !isLike, !is && !now.isLike(before):
		t.Fatalf("%s: %v, was %v, would be %v", what, now, before, after)
	}
	for id, data := range now.blobs {
		if !before.has(id, data) && !after.has(id, data) {
			t.Fatalf("%s: a blob came that is not the step's", what)
		}
	}
	for id, data := range before.blobs {
		if !now.has(id, data) && (s.Kind != api.StepDrop || id != s.ID) {
			t.Fatalf("%s: a blob is gone", what)
		}
	}
	if !maps.Equal(now.results, before.results) && !maps.Equal(now.results, after.results) {
		t.Fatalf("%s: another table", what)
	}
	if before.isWhole() && !now.isWhole() && s.Kind != api.StepDrop {
		t.Fatalf("%s: it was whole", what)
	}
	x.ledger.caches[s.Cache] = now
}

// Clean scripts without a plan: all is as the maps say.
func TestP0_1_AsTheMapsSay(t *testing.T) {
	r := noise()
	met := map[string]int{}
	for i := range 200 {
		x := newTrial(t, []int{1, 1, 32, 2}[i%4], api.MaxRoom)
		x.met = met
		var steps []string
		for range 60 {
			steps = append(steps, x.do(t, x.drawn(r.IntN), r.IntN))
		}
		wantLedger(t, fmt.Sprint("script ", i, steps[len(steps)-3:]), x.depot, x.ledger)
	}
	wantMet(t, met, map[string][]api.Errno{
		"put":     {api.OK, api.ErrLong, api.ErrCollision, api.ErrBlobs},
		"set":     {api.OK, api.ErrArg, api.ErrNoTree, api.ErrDeep, api.ErrMissing, api.ErrActions},
		"drop":    {api.OK, api.ErrNoBlob},
		"get":     {api.OK, api.ErrNoBlob},
		"cache":   {api.OK},
		"export":  {api.OK, api.ErrArg, api.ErrNoAction, api.ErrMissing},
		"import":  {api.OK, api.ErrArg, api.ErrNone, api.ErrBundle, api.ErrBlock, api.ErrDigest, api.ErrCollision, api.ErrConflict, api.ErrActions, api.ErrBlobs},
		"restore": {api.OK, api.ErrArg, api.ErrNone, api.ErrBundle, api.ErrNoAction, api.ErrMissing, api.ErrCollision, api.ErrConflict, api.ErrActions, api.ErrBlobs},
	})
}

func wantMet(t testing.TB, met map[string]int, want map[string][]api.Errno) {
	t.Helper()
	for kind, codes := range want {
		for _, code := range codes {
			if met[fmt.Sprint(kind, " ", int(code))] == 0 {
				t.Errorf("%s never answers %d", kind, int(code))
			}
		}
	}
}

// Clean scripts in which the power goes off and room ends anywhere: what is left is
// what P0.4, P0.5, P0.6 and P0.12 say.
func TestP0_4_Scripts(t *testing.T) {
	r := noise()
	met := map[string]int{}
	for i := range 240 {
		x := newTrial(t, []int{1, 32, 2, 32}[i%4], []int{api.MaxRoom, 24000}[i/4%2])
		x.met = met
		for range 60 {
			x.step(t, r.IntN)
		}
		wantDone(t, x.depot, crash())
		wantLedger(t, fmt.Sprint("script ", i), x.depot, x.ledger)
		x.endAll(t)
	}
	for _, what := range []string{"cut off: put", "cut off: set", "cut off: drop", "cut off: export", "cut off: import", "cut off: restore", "cut off: resume", "cut off: abandon", "cut off: sign", "cut off: delta", "cut off: write", "cut off: erase",
		"no room: put", "no room: export", "no room: import", "no room: restore", "no room: resume", "left open", "resume 0", "abandon 0", "another bundle", "the new file"} {
		if met[what] == 0 {
			t.Errorf("%q is never met", what)
		}
	}
}

// endAll ends what is open, by a resume where the bundle is as it was, else by an
// abandon.
func (x *trial) endAll(t testing.TB) {
	t.Helper()
	for _, title := range slices.Sorted(maps.Keys(x.ledger.caches)) {
		h := x.ledger.cache(title)
		if h.open == nil {
			continue
		}
		wantDone(t, x.depot, planning(api.Plan{}))
		if !x.isOther(title) && x.depot.Disk().Room() == api.MaxRoom {
			wantDone(t, x.depot, resume(title))
			if now := heldBy(t, "resumed", x.depot, title, x.ledger.width); !now.isLike(h.open.done) || isOpen(x.depot, title) {
				t.Fatalf("resumed: %v, want %v", now, h.open.done)
			}
			continue
		}
		wantDone(t, x.depot, abandon(title))
		now := heldBy(t, "abandoned", x.depot, title, x.ledger.width)
		if isOpen(x.depot, title) || h.open.ahead.isWhole() && !now.isWhole() {
			t.Fatalf("abandoned: %v", now)
		}
		if !maps.Equal(now.results, h.open.ahead.results) && !maps.Equal(now.results, h.open.done.results) {
			t.Fatal("abandoned: another table")
		}
	}
}

func FuzzClean(f *testing.F) {
	f.Add([]byte{}, false)
	f.Add([]byte{1, 5, 0, 0, 1, 0, 2, 0, 3, 1, 4, 1, 2, 3, 4, 5, 6, 7}, true)
	f.Fuzz(func(t *testing.T, draws []byte, isNarrow bool) {
		x := newTrial(t, map[bool]int{true: 1, false: 32}[isNarrow], api.MaxRoom)
		choose := func(below int) int {
			if len(draws) == 0 {
				return 0
			}
			first := int(draws[0])
			draws = draws[1:]
			return first % below
		}
		for n := 0; len(draws) > 0 && n < 100; n++ {
			x.step(t, choose)
		}
		wantDone(t, x.depot, crash())
		wantLedger(t, "in the end", x.depot, x.ledger)
	})
}
