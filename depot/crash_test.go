package depot_test

import (
	"fmt"
	"maps"
	"slices"
	"strings"
	"testing"

	"freight/api"
	"freight/depot"
)

// crashes are picks for every part of a short row of changes of names, and of bytes at
// their ends and within them.
func crashes() [][]int {
	var picks [][]int
	for names := range 4 {
		for _, units := range []int{0, 1, 40, -1} {
			picks = append(picks, slices.Concat([]int{names}, slices.Repeat([]int{units}, 40)))
		}
	}
	return append(picks, nil, slices.Repeat([]int{-1}, 40), []int{1, -2, 3, -4, 5}, []int{1 << 40, -1 << 40, 7})
}

// cut is a step on a depot of a ledger, which has some strokes.
type cut struct {
	ledger ledger
	step   api.Step
}

// trial is that of a depot of the cut's ledger.
func (c cut) trial(t testing.TB) *trial {
	t.Helper()
	return &trial{ledger: c.ledger.clone(), depot: c.ledger.load(t, api.MaxRoom), met: map[string]int{}}
}

// after is the ledger behind the step, and how many strokes it has.
func (c cut) after(t testing.TB) (ledger, int) {
	t.Helper()
	after, d := c.ledger.clone(), c.ledger.load(t, api.MaxRoom)
	wantAnswer(t, d, c.step, after.do(c.step))
	wantLedger(t, name(c.step), d, after)
	return after, d.Disk().Strokes()
}

// off is the depot behind the power's end at a stroke of the step.
func (c cut) off(t testing.TB, at int) *depot.Depot {
	t.Helper()
	d := c.ledger.load(t, api.MaxRoom)
	wantDone(t, d, off(at))
	wantCode(t, d, c.step, api.ErrOff, api.ID{})
	if !d.Disk().Off() || d.Disk().Strokes() != at {
		t.Fatalf("%s: off at %d: %d strokes", name(c.step), at, d.Disk().Strokes())
	}
	return d
}

// takings are imports and restores with much to do, and with little.
func takings() map[string]cut {
	g := stock(8)
	own, changed := res(1, g.results[2].Root, 9), g.results[1]
	changed.Code = 3
	inner := g.part(g.results[1])
	mixed := goods{8, append(inner.blobs, g.blobs[5], crate, "own"), []api.Result{own, changed}}
	list := map[string]cut{}
	for what, x := range map[string]struct {
		held goods
		step api.Step
	}{
		"an empty cache": {goods{width: 8}, taking("a", "x", api.Fail)},
		"Take":           {mixed, taking("a", "x", api.Take)},
		"Keep":           {mixed, taking("a", "x", api.Keep)},
		"nothing new":    {g, taking("a", "x", api.Fail)},
		"a part":         {goods{width: 8}, restoring("a", "x", api.Fail, acts(12, 13)...)},
		"a part, Take":   {mixed, restoring("a", "x", api.Take, acts(11, 12)...)},
		"a part, Keep":   {mixed, restoring("a", "x", api.Keep, acts(12)...)},
		"no part":        {mixed, restoring("a", "x", api.Keep)},
	} {
		l := newLedger(8)
		l.stow("a", x.held)
		l.stow("b", g.part(g.results[2]))
		l.files["x"] = g.bundle(64)
		list[what] = cut{l, x.step}
	}
	return list
}

// cuts are steps of all kinds that have strokes.
func cuts() map[string]cut {
	g := stock(8)
	l := newLedger(8)
	l.stow("a", goods{8, append([]string{emptyTree}, g.blobs...), g.results})
	l.stow("b", g.part(g.results[2]))
	l.files = map[string]string{"x": g.bundle(64), "y": times(4, "crate 7 of 31, b") + "y", "s": signatureOf(8, times(40, "s")), "t": deltaOf(8, times(4, "crate 7 of 31, b")+"y", "target")}
	list := takings()
	for what, s := range map[string]api.Step{
		"put":                  put("a", "new"),
		"put, a new cache":     put("c", "new"),
		"set":                  set("a", res(12, idOf(8, emptyTree), 1)),
		"set, another":         set("a", res(1, idOf(8, emptyTree), 1)),
		"set, the first":       set("b", res(1, g.results[2].Root, 1)),
		"drop":                 drop("a", g.id(crate)),
		"drop, a root":         drop("b", g.results[2].Root),
		"export":               export("a", "z", 64, acts(11, 12)...),
		"export, in its place": export("a", "x", 16, acts(13)...),
		"sign":                 sign("x", 16, "z"),
		"sign, in its place":   sign("x", 64, "x"),
		"delta":                differ("s", "y", "z"),
		"apply":                apply("y", "t", "z"),
		"apply, in its place":  apply("y", "t", "y"),
		"write":                write("z", "new"),
		"write, in its place":  write("x", "new"),
		"erase":                erase("x"),
	} {
		list[what] = cut{l, s}
	}
	return list
}

// The power goes off at each stroke of each kind of step, whatever the crash leaves.
func TestP0_4_EachStroke(t *testing.T) {
	for what, c := range cuts() {
		after, strokes := c.after(t)
		if strokes < 2 {
			t.Fatalf("%s: %d strokes", what, strokes)
		}
		ends := map[string]int{}
		for at := 1; at <= strokes; at++ {
			d := c.off(t, at)
			for _, picks := range crashes() {
				x := &trial{ledger: c.ledger.clone(), depot: twin(t, d, 8), met: ends}
				wantDone(t, x.depot, crash(picks...))
				where := fmt.Sprint(what, ", off at ", at, ", Crash ", picks[:min(2, len(picks))])
				x.settle(t, where, c.step, api.ErrOff, after)
				if len(x.depot.Disk().List("+")) != 0 || x.depot.Disk().Off() {
					t.Fatalf("%s: %q", where, x.depot.Disk().List(""))
				}
				x.goesOn(t, where, c.step, after)
				ends[fmt.Sprint("as before ", sameLedger(x.ledger, c.ledger), ", as after ", sameLedger(x.ledger, after))]++
			}
		}
		isChange := !sameLedger(c.ledger, after)
		if isChange && (ends["as before true, as after false"] == 0 || ends["as before false, as after true"] == 0) {
			t.Errorf("%s: crashes left %v", what, ends)
		}
	}
}

// sameLedger tells whether two say the same.
func sameLedger(one, other ledger) bool {
	if !maps.Equal(one.files, other.files) || !slices.Equal(one.titles(), other.titles()) {
		return false
	}
	for _, title := range one.titles() {
		if a, b := one.cache(title), other.cache(title); !a.isLike(b) || (a.open == nil) != (b.open == nil) {
			return false
		}
	}
	return true
}

// goesOn does the step once more, or resumes it: what it leaves is what it would have
// left at once. (What was done to its end may be refused now: a drop, an erase; and a
// sign, an apply in its own place is done to another file.)
func (x *trial) goesOn(t testing.TB, what string, s api.Step, after ledger) {
	t.Helper()
	if x.ledger.caches[s.Cache].open != nil {
		wantDone(t, x.depot, resume(s.Cache))
		wantLedger(t, what+", resumed", x.depot, after)
		return
	}
	if sameLedger(x.ledger, after) {
		return
	}
	twin := twin(t, x.depot, 8)
	if got := twin.Do(s); got.Code != api.OK {
		t.Fatalf("%s, once more: %s", what, brief(got))
	}
	wantLedger(t, what+", once more", twin, after)
}

// Whatever a crash leaves at each stroke of two of them, byte by byte.
func TestP0_4_EachByte(t *testing.T) {
	for _, what := range []string{"put", "set", "a part, Keep", "write, in its place"} {
		c := cuts()[what]
		after, strokes := c.after(t)
		for at := 1; at <= strokes; at++ {
			d := c.off(t, at)
			units := 0
			for _, f := range d.Disk().Files() {
				if strings.HasPrefix(f.Name, "+") {
					units = max(units, len(f.Data))
				}
			}
			for names := range 4 {
				for unit := 0; unit <= units; unit += 1 + units/60 {
					x := &trial{ledger: c.ledger.clone(), depot: twin(t, d, 8), met: map[string]int{}}
					wantDone(t, x.depot, crash(slices.Concat([]int{names}, slices.Repeat([]int{unit}, 40))...))
					x.settle(t, fmt.Sprint(what, ", off at ", at, ", Crash ", names, " ", unit), c.step, api.ErrOff, after)
				}
			}
		}
	}
}

// While the power is off nothing is told, and behind the crash all that was answered
// earlier stands.
func TestP0_4_EarlierAnswers(t *testing.T) {
	g := stock(8)
	for at := 1; at <= 40; at++ {
		d := begin(t, 8, api.MaxRoom)
		told := newLedger(8)
		for _, s := range append(putAll("a", g), export("a", "x", 64, acts(11, 12)...), write("y", "y"), taking("b", "x", api.Keep)) {
			want := told.do(s)
			wantAnswer(t, d, s, want)
		}
		wantDone(t, d, off(at))
		cutOff := cut{told, restoring("c", "x", api.Keep, act(12))}
		after := told.clone()
		after.do(cutOff.step)
		if got := d.Do(cutOff.step); got.Code == api.OK {
			break
		}
		for _, s := range []api.Step{get("a", g.id(crate)), telling("b"), read("y"), list("x"), put("a", "new"), resume("c")} {
			wantCode(t, d, s, api.ErrOff, api.ID{})
		}
		wantDone(t, d, crash(at, 5*at, 3))
		x := &trial{ledger: told, depot: d, met: map[string]int{}}
		x.settle(t, fmt.Sprint("off at ", at), cutOff.step, api.ErrOff, after)
	}
}

// putAll are steps that bring goods into a cache.
func putAll(cache string, g goods) []api.Step {
	var steps []api.Step
	for _, b := range g.blobs {
		steps = append(steps, put(cache, b))
	}
	for _, r := range g.results {
		steps = append(steps, set(cache, r))
	}
	return steps
}

// An import or restore is cut off at each stroke, and resumed; each resume is cut off
// too, at each of its strokes, and resumed.
func TestP0_5_CutOffTwice(t *testing.T) {
	few := [][]int{nil, slices.Repeat([]int{-1}, 40), slices.Concat([]int{1}, slices.Repeat([]int{3}, 40))}
	for what, c := range takings() {
		after, strokes := c.after(t)
		resumed := 0
		for at := 1; at <= strokes; at += 2 {
			d := c.off(t, at)
			for _, picks := range few {
				first := twin(t, d, 8)
				wantDone(t, first, crash(picks...))
				if !isOpen(first, "a") {
					continue
				}
				for again := 1; ; again++ {
					second := twin(t, first, 8)
					wantDone(t, second, off(again))
					got := second.Do(resume("a"))
					if got.Code == api.OK {
						wantLedger(t, what, second, after)
						break
					}
					resumed++
					wantCode(t, second, resume("a"), api.ErrOff, api.ID{})
					wantDone(t, second, crash(picks...))
					if isOpen(second, "a") {
						wantDone(t, second, resume("a"))
					}
					wantLedger(t, fmt.Sprint(what, ", off at ", at, ", again at ", again), second, after)
				}
			}
		}
		if resumed == 0 {
			t.Errorf("%s: no resume was cut off", what)
		}
	}
}

// Cut off again and again, anywhere, with refusals for room among them; where none is
// open behind it, it begins anew.
func TestP0_5_AgainAndAgain(t *testing.T) {
	r := noise()
	list := takings()
	names := slices.Sorted(maps.Keys(list))
	ends := map[bool]int{}
	for i := range 160 {
		what := names[i%len(names)]
		c := list[what]
		after, strokes := c.after(t)
		x := c.trial(t)
		for range 1 + r.IntN(10) {
			wantDone(t, x.depot, planning(api.Plan{Off: 1 + r.IntN(strokes), From: r.IntN(strokes), To: r.IntN(strokes)}))
			s := c.step
			if isOpen(x.depot, "a") {
				s = resume("a")
			} else if heldBy(t, what, x.depot, "a", 8).isLike(after.cache("a")) {
				break
			}
			if code := x.depot.Do(s).Code; code != api.OK && code != api.ErrOff && code != api.ErrFull {
				t.Fatalf("%s: %d", what, code)
			}
			wantDone(t, x.depot, crash(r.IntN(5), r.IntN(99), r.IntN(99), r.IntN(99), r.IntN(99)))
		}
		wantDone(t, x.depot, crash())
		ends[isOpen(x.depot, "a")]++
		if isOpen(x.depot, "a") {
			wantDone(t, x.depot, resume("a"))
		} else {
			wantDone(t, x.depot, c.step)
		}
		wantLedger(t, what, x.depot, after)
	}
	if ends[true] < 15 || ends[false] < 15 {
		t.Errorf("%v were open at last", ends)
	}
}

// The bundle's file is as it was, but not in the meantime: it is resumed once it is the
// same again.
func TestP0_5_TheSameFileAgain(t *testing.T) {
	for what, c := range takings() {
		after, strokes := c.after(t)
		for at := 1; at <= strokes; at++ {
			d := c.off(t, at)
			wantDone(t, d, crash(-1, -1, -1))
			if !isOpen(d, "a") {
				continue
			}
			wantDone(t, d, erase("x"))
			wantRefused(t, d, resume("a"), api.ErrOther, api.ID{})
			wantDone(t, d, write("x", goods{width: 8}.bundle(64)))
			wantRefused(t, d, resume("a"), api.ErrOther, api.ID{})
			wantDone(t, d, write("x", c.ledger.files["x"]))
			wantDone(t, d, resume("a"))
			wantLedger(t, what, d, after)
		}
	}
}

// Cut off and abandoned: no import is open, the table is one of the two, a cache that
// was whole is whole; taken in again, it leaves what it would have left at once.
func TestP0_6_Abandon(t *testing.T) {
	tables := map[bool]int{}
	for what, c := range takings() {
		after, strokes := c.after(t)
		for at := 1; at <= strokes; at++ {
			d := c.off(t, at)
			for _, picks := range [][]int{nil, slices.Repeat([]int{-1}, 40), {1, 1, 1, 1}} {
				w := twin(t, d, 8)
				wantDone(t, w, crash(picks...))
				was := isOpen(w, "a")
				where := fmt.Sprint(what, ", off at ", at)
				if !was {
					wantRefused(t, w, abandon("a"), api.ErrNoImport, api.ID{})
					continue
				}
				wantDone(t, w, abandon("a"))
				wantRefused(t, w, resume("a"), api.ErrNoImport, api.ID{})
				now := heldBy(t, where, w, "a", 8)
				ahead, done := c.ledger.cache("a"), after.cache("a")
				isAhead, isDone := maps.Equal(now.results, ahead.results), maps.Equal(now.results, done.results)
				if isOpen(w, "a") || !isAhead && !isDone || ahead.isWhole() && !now.isWhole() {
					t.Fatalf("%s: %v", where, now)
				}
				for id, data := range now.blobs {
					if !ahead.has(id, data) && !done.has(id, data) {
						t.Fatalf("%s: a blob of nobody", where)
					}
				}
				tables[isAhead]++
				wantOK(t, w, put("a", "new")) // it may be changed again
				wantDone(t, w, drop("a", idOf(8, "new")))
				wantDone(t, w, c.step)
				wantLedger(t, where+", again", w, after)
			}
		}
	}
	if tables[true] == 0 || tables[false] == 0 {
		t.Errorf("the table is the one ahead: %v", tables)
	}
}

// An abandon that is cut off has been done or not.
func TestP0_6_AbandonIsCutOff(t *testing.T) {
	g := stock(8)
	met := map[bool]int{}
	for at := 1; at <= 2; at++ {
		for _, picks := range crashes() {
			d := opening(t, g)
			wantDone(t, d, off(at))
			wantCode(t, d, abandon("a"), api.ErrOff, api.ID{})
			wantDone(t, d, crash(picks...))
			met[isOpen(d, "a")]++
			if isOpen(d, "a") {
				wantDone(t, d, abandon("a"))
			}
			wantAnswer(t, d, telling("a"), api.Answer{})
			wantDone(t, d, taking("a", "x", api.Keep))
			wantHolds(t, d, "a", 8, g.blobs, g.results)
		}
	}
	if met[true] == 0 || met[false] == 0 {
		t.Errorf("%v", met)
	}
}

// Behind each step that is OK, of each kind but plan, a crash changes nothing.
func TestP0_12_Safe(t *testing.T) {
	for what, x := range scenes() {
		d := x.load(t)
		wantOK(t, d, x.step)
		wantNothingLost(t, what, d)
	}
	for what, c := range cuts() {
		_, strokes := c.after(t)
		for at := 1; at <= strokes; at += 3 {
			for _, picks := range crashes() {
				d := twin(t, c.off(t, at), 8)
				wantDone(t, d, crash(picks...))
				if !sameFiles(d.Disk().Safe(), d.Disk().Files()) {
					t.Fatalf("%s: behind a crash not all is safe", what)
				}
			}
			d := c.off(t, at)
			wantDone(t, d, crash(1, 40, 40, 40))
			wantNothingLost(t, what+", crashed", d)
			if isOpen(d, "a") {
				wantDone(t, d, resume("a"))
				wantNothingLost(t, what+", resumed", d)
			}
		}
	}
}

// wantNothingLost is P0.12.
func wantNothingLost(t testing.TB, what string, d *depot.Depot) {
	t.Helper()
	for _, picks := range crashes() {
		left := d.Disk().Twin()
		left.Crash(picks...)
		if !sameFiles(left.Files(), d.Disk().Files()) {
			t.Fatalf("%s, Crash %v: %s, want %s", what, picks[:min(2, len(picks))], show(left.Files()), show(d.Disk().Files()))
		}
	}
}

// Behind a step that was refused for room, too, when the next one is OK.
func TestP0_12_BehindARefusal(t *testing.T) {
	for what, c := range cuts() {
		_, strokes := c.after(t)
		for at := 1; at <= strokes; at++ {
			d := c.ledger.load(t, api.MaxRoom)
			wantDone(t, d, planning(api.Plan{From: at, To: at}))
			d.Do(c.step)
			wantOK(t, d, put("z", "new"))
			wantNothingLost(t, fmt.Sprint(what, ", no room at ", at), d)
		}
	}
}

// Refused for room at each stroke, by the plan: nothing has changed, but that an import
// or restore may be open then.
func TestP0_4_NoRoom(t *testing.T) {
	refused := 0
	for what, c := range cuts() {
		after, strokes := c.after(t)
		for at := 1; at <= strokes; at++ {
			x := c.trial(t)
			wantDone(t, x.depot, planning(api.Plan{From: at, To: at}))
			got := x.depot.Do(c.step)
			if got.Code == api.OK {
				wantLedger(t, what, x.depot, after)
				continue
			}
			if got.Code != api.ErrFull {
				t.Fatalf("%s: %s", what, brief(got))
			}
			refused++
			x.settle(t, fmt.Sprint(what, ", no room at ", at), c.step, api.ErrFull, after)
			x.goesOn(t, what, c.step, after)
		}
	}
	if refused < 40 {
		t.Errorf("%d were refused", refused)
	}
}
