package depot_test

import (
	"slices"
	"testing"

	"freight/api"
	"freight/depot"
)

// choice is a number from 0 on, below the one that is handed in.
type choice func(below int) int

func pick[T any](choose choice, list ...T) T { return list[choose(len(list))] }

// script is a depot, and the words' own disk beside it.
type script struct {
	width   int
	depot   *depot.Depot
	words   words
	blobs   []string
	bundles []string
	met     map[int]map[api.Errno]int // how often a kind answered what
}

// newScript has few blobs, some of which clash where the width is narrow, and a
// cache that is nearly full of others, so that what is drawn meets much.
func newScript(t testing.TB, width, room int) *script {
	s := &script{width: width, met: map[int]map[api.Errno]int{}}
	g := stock(width)
	deep := chain(width, 7, crate)
	lack := filesTree(width, "lacks")
	s.blobs = slices.Concat(g.blobs, deep, []string{lack, "no tree", emptyTree, "T", times(4096, "l"), times(4097, "m")})
	if width == 1 {
		s.blobs = append(s.blobs, clash(1, crate), clash(1, pallet), clash(1, emptyTree))
	}
	broken := goods{width, append(slices.Clone(deep), lack, crate, "more"), []api.Result{res(11, idOf(width, deep[6]), 0), res(12, idOf(width, lack), 0), res(14, idOf(width, deep[1]), 1)}}
	if width == 1 {
		broken.blobs = broken.blobs[5:]
	}
	first := g.bundle(16)
	s.bundles = []string{first, g.bundle(64), g.part(g.results[1:3]...).bundle(32), goods{width: width}.bundle(64), broken.bundle(16), spoilt(first, width, 3), withID(first, width, 2), stock(3).bundle(64), "", "none"}
	files := slices.Concat(g.files("a"), []api.FileBytes{of("f.x", first), of("f.y", crate+pallet), of("f.q", first)})
	for _, b := range strangers(width, 126, s.blobs...) {
		files = append(files, of(blobName("b", idOf(width, b)), b))
	}
	s.depot = load(t, width, room, files...)
	s.words = words{s.depot.Disk().Twin(), width}
	return s
}

// title is a name of one of a few, and now and then none.
func title(choose choice, titles ...string) string {
	if choose(40) == 0 {
		return pick(choose, "", "A", "a.b", "+a", times(33, "a"), "a_b", "ä", times(32, "z"))
	}
	return pick(choose, titles...)
}

// drawn is a step of any kind, each field of which is drawn, the kind's or not.
func (s *script) drawn(choose choice) api.Step {
	blob := pick(choose, s.blobs...)
	step := api.Step{
		Kind:   1 + choose(lastKind),
		Cache:  title(choose, "a", "a", "b", "c-1"),
		File:   title(choose, "x", "x", "y", "z", "s", "t"),
		With:   title(choose, "x", "y", "t", "t"),
		To:     title(choose, "y", "z", "s", "t"),
		Data:   []byte(blob),
		ID:     idOf(s.width, pick(choose, s.blobs...)),
		Result: res(byte(10+choose(6)), idOf(s.width, pick(choose, s.blobs...)), pick(choose, 0, 1, 7, 255, 256, -1)),
		Size:   pick(choose, 16, 16, 64, 4096, 15, 4097),
		Policy: pick(choose, 1, 2, 3, 1, 2, 3, 1, 2, 3, 0, 4),
	}
	if choose(2) == 0 {
		step.Result = pick(choose, stock(s.width).results...)
		step.Result.Code = choose(3)
	}
	if choose(60) == 0 {
		step.Kind = pick(choose, 0, 22, -1, 1<<62)
	}
	for range choose(4) {
		step.Actions = append(step.Actions, act(byte(pick(choose, 11, 12, 13, 14, 11, 12, 13, 14, 10, 200))))
	}
	s.special(choose, &step)
	return step
}

// special draws what a kind has for itself.
func (s *script) special(choose choice, step *api.Step) {
	switch step.Kind {
	case api.StepWrite:
		step.Data = []byte(pick(choose, slices.Concat(s.blobs, s.bundles, s.bundles)...))
		if choose(30) == 0 {
			step.Data = make([]byte, 131072+choose(2))
		}
	case api.StepHand:
		if choose(3) == 0 {
			step.To = pick(choose, "f.x", "f.y", "f.t", "g.x", "+f.x", "", "A", "c.a", "c.d.e", times(111, "h"), times(112, "h"))
			step.Data = []byte(pick(choose, s.bundles...))
			break
		}
		step.To = pick(choose, "c.a.table", "c.a.import", "c.c-1.import", "c.c-1.table", blobName("a", step.ID), blobName("b", step.ID), blobName("a", step.ID)[:20])
		step.Data = []byte(pick(choose, "", "\x00", "none", tableForm(stock(s.width).results[:2]), s.journal(choose), s.journal(choose)))
	case api.StepPlan:
		step.Plan = api.Plan{Off: pick(choose, 0, 1+choose(40), 1+choose(8)), From: choose(30), To: choose(30)}
	case api.StepCrash:
		step.Picks = []int{choose(9)}
		for range choose(200) {
			step.Picks = append(step.Picks, choose(90))
		}
	case api.StepApply:
		step.With = pick(choose, "t", "t", step.With)
	case api.StepDelta:
		step.File, step.To = pick(choose, "s", "s", step.File), pick(choose, "t", "t", step.To)
	case api.StepSign:
		step.To = pick(choose, "s", "s", step.To)
	}
}

// journal is that of an import that may be carried on, or that of another bundle.
func (s *script) journal(choose choice) string {
	data := pick(choose, s.bundles[:3]...)
	face := faceOf(data, s.width)
	j := api.Journal{Bundle: pick(choose, "f.x", "f.q", "f.z"), Entries: face.Entries, Index: face.Index, Results: face.Results, Table: face.Results[:choose(2)]}
	for _, place := range face.Blobs {
		j.Need = append(j.Need, place.ID)
	}
	if choose(4) == 0 {
		j.Need = j.Need[:1]
	}
	return journalForm(j)
}

// step holds a drawn step against the words.
func (s *script) step(t testing.TB, choose choice) string {
	t.Helper()
	step := s.drawn(choose)
	if s.words.disk.Off() && choose(2) > 0 {
		step.Kind = api.StepCrash
	}
	want := s.words.do(step)
	got := wantAnswer(t, s.depot, step, want)
	wantSameDisk(t, name(step), s.depot.Disk(), s.words.disk)
	if titles := s.depot.Caches(); !slices.Equal(titles, s.words.caches()) {
		t.Errorf("%s: %q, want %q", name(step), titles, s.words.caches())
	}
	if s.met[step.Kind] == nil {
		s.met[step.Kind] = map[api.Errno]int{}
	}
	s.met[step.Kind][got.Code]++
	return name(step) + " -> " + brief(got)
}

// rooms are those of the scripts: one that has much, and one that is nearly full.
func rooms() []int { return []int{api.MaxRoom, 16000} }

// Steps of all kinds in any order, by hand too, with plans and crashes.
func TestScripts(t *testing.T) {
	r := noise()
	met := map[int]map[api.Errno]int{}
	for i := range 240 {
		s := newScript(t, []int{1, 1, 32, 2}[i%4], rooms()[i/4%2])
		s.met = met
		var steps []string
		for range 60 {
			steps = append(steps, s.step(t, r.IntN))
			if t.Failed() {
				t.Fatalf("script %d: %q", i, steps)
			}
		}
	}
	for kind, codes := range mustMeet() {
		for _, code := range codes {
			if met[kind][code] == 0 {
				t.Errorf("%s never answers %d", rowOf(kind).name, code)
			}
		}
	}
}

// mustMeet is what each kind answers now and then in the scripts.
func mustMeet() map[int][]api.Errno {
	return map[int][]api.Errno{
		api.StepPut:     {api.OK, api.ErrName, api.ErrOff, api.ErrLong, api.ErrOpen, api.ErrCollision, api.ErrBlobs, api.ErrFull},
		api.StepSet:     {api.OK, api.ErrName, api.ErrOff, api.ErrArg, api.ErrOpen, api.ErrCache, api.ErrNoTree, api.ErrMissing, api.ErrFull},
		api.StepDrop:    {api.OK, api.ErrName, api.ErrOff, api.ErrOpen, api.ErrNoBlob},
		api.StepGet:     {api.OK, api.ErrName, api.ErrOff, api.ErrNoBlob, api.ErrDamage},
		api.StepCache:   {api.OK, api.ErrName, api.ErrOff, api.ErrCache},
		api.StepExport:  {api.OK, api.ErrName, api.ErrOff, api.ErrArg, api.ErrCache, api.ErrNoAction, api.ErrMissing, api.ErrFull},
		api.StepImport:  {api.OK, api.ErrName, api.ErrOff, api.ErrArg, api.ErrOpen, api.ErrNone, api.ErrBundle, api.ErrFull, api.ErrCache, api.ErrConflict, api.ErrBlock, api.ErrDigest},
		api.StepResume:  {api.OK, api.ErrName, api.ErrOff, api.ErrNoImport, api.ErrJournal, api.ErrOther},
		api.StepAbandon: {api.OK, api.ErrName, api.ErrOff, api.ErrNoImport},
		api.StepRestore: {api.OK, api.ErrName, api.ErrOff, api.ErrArg, api.ErrOpen, api.ErrNone, api.ErrBundle, api.ErrNoAction},
		api.StepSign:    {api.OK, api.ErrName, api.ErrOff, api.ErrNone, api.ErrArg, api.ErrFull},
		api.StepDelta:   {api.OK, api.ErrName, api.ErrOff, api.ErrNone, api.ErrDelta, api.ErrFull},
		api.StepApply:   {api.OK, api.ErrName, api.ErrOff, api.ErrNone, api.ErrDelta, api.ErrBase},
		api.StepVerify:  {api.OK, api.ErrName, api.ErrOff, api.ErrNone, api.ErrBundle, api.ErrBlock, api.ErrDigest},
		api.StepList:    {api.OK, api.ErrName, api.ErrOff, api.ErrNone, api.ErrBundle},
		api.StepWrite:   {api.OK, api.ErrName, api.ErrOff, api.ErrLong, api.ErrFull},
		api.StepRead:    {api.OK, api.ErrName, api.ErrOff, api.ErrNone},
		api.StepErase:   {api.OK, api.ErrName, api.ErrOff, api.ErrNone},
		api.StepPlan:    {api.OK},
		api.StepCrash:   {api.OK},
		api.StepHand:    {api.OK, api.ErrName, api.ErrOff, api.ErrFull},
	}
}

func FuzzAsTheWordsSay(f *testing.F) {
	f.Add([]byte{}, false)
	f.Add([]byte{6, 0, 0, 1, 0, 1, 1, 1, 2, 3, 4, 5, 0, 0, 9, 1, 1}, true)
	f.Fuzz(func(t *testing.T, draws []byte, isNarrow bool) {
		s := newScript(t, map[bool]int{true: 1, false: 32}[isNarrow], api.MaxRoom)
		choose := func(below int) int {
			if len(draws) == 0 {
				return 0
			}
			first := int(draws[0])
			draws = draws[1:]
			return first % below
		}
		for n := 0; len(draws) > 0 && n < 100; n++ {
			s.step(t, choose)
		}
	})
}
