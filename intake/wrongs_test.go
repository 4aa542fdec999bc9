package intake_test

import (
	"bytes"
	"fmt"
	"slices"
	"testing"

	"freight/api"
	"freight/reader"
)

const wrongWidth = 2

// lot is a cache, its disk, and what is asked of it.
type lot struct {
	held     []string
	ours     []api.Result
	badTable bool
	bundle   string // "": none
	journal  string // "": none
	off      bool
	plan     api.Plan
	file     string
	argument
	noReader  bool // Part's: a zero one
	otherDisk int  // Part's: 1: its own disk; 2: that is off
	spoilt    int  // a byte that is turned behind the Reader's opening
}

// newLot is refused by nothing: the cache has one of the blobs, and a result that
// is unlike.
func newLot() *lot {
	g := stock(wrongWidth)
	changed := g.results[1]
	changed.Code = 1
	return &lot{held: g.inOrder()[:1], ours: []api.Result{changed}, bundle: g.bundle(16), file: "f.x", argument: argument{g.results, g.ids(), api.Take}}
}

// made is the store, and the Reader for Part.
func (l *lot) made(t testing.TB) (*store, source) {
	t.Helper()
	var files []api.FileBytes
	if l.bundle != "" {
		files = append(files, of("f.x", l.bundle))
	}
	if l.journal != "" {
		files = append(files, of("c.a.import", l.journal))
	}
	s := stored(t, wrongWidth, l.held, l.ours, files...)
	if l.badTable {
		s.disk.Truncate("c.a.table", 0)
		s.disk.Sync("c.a.table")
	}
	from := l.source(t, s)
	if l.off {
		darken(t, s.disk)
	}
	s.disk.Plan(l.plan)
	return s, from
}

func (l *lot) source(t testing.TB, s *store) source {
	t.Helper()
	if l.noReader || l.bundle == "" {
		return source{reader: &reader.Reader{}}
	}
	from := s.reader(t, "f.x")
	if l.otherDisk > 0 {
		from = readerOn(t, mustLoad(t, api.MaxRoom, of("f.x", l.bundle)), "f.x", wrongWidth)
	}
	if l.spoilt > 0 {
		from.disk.WriteAt("f.x", l.spoilt, []byte{l.bundle[l.spoilt] ^ 1})
		from.disk.Sync("f.x")
	}
	if l.otherDisk > 1 {
		darken(t, from.disk)
	}
	return from
}

// wrong is one thing that a call refuses, with the id that it is said of.
type wrong struct {
	said
	spoil func(l *lot)
}

func refused(code api.Errno, spoil func(l *lot)) wrong { return wrong{said{code: code}, spoil} }

// ofTheCache are what chapter 15 and the journal's Put refuse, in their order.
func ofTheCache() []wrong {
	g := stock(wrongWidth)
	list := g.inOrder()
	others := strangers(wrongWidth, 200, g.blobs...)
	clashing := []string{clash(wrongWidth, list[4]), clash(wrongWidth, list[2])}
	changed := g.results[1]
	return []wrong{
		{said{api.ErrCollision, g.id(list[2])}, func(l *lot) { l.held = slices.Concat(clashing, l.held) }},
		{said{api.ErrConflict, changed.Action}, func(l *lot) {
			if l.policy == api.Take {
				l.policy = api.Fail
			}
		}},
		refused(api.ErrActions, func(l *lot) { l.ours = append(l.ours, resultsFrom(100, 31, api.ID{})...) }),
		refused(api.ErrBlobs, func(l *lot) { l.held = append(l.held, others[:128-len(l.held)]...) }),
		refused(api.ErrFull, func(l *lot) { l.plan = api.Plan{From: 1, To: 1} }),
	}
}

// ofImport are all that Import refuses up to its 4, in the order of its list.
func ofImport() []wrong {
	g := stock(wrongWidth)
	spoilt := withID(g.bundle(16), wrongWidth, 3)
	return append([]wrong{
		refused(api.ErrArg, func(l *lot) { l.policy = 4 }),
		refused(api.ErrName, func(l *lot) { l.file = "F" }),
		refused(api.ErrOff, func(l *lot) { l.off = true }),
		refused(api.ErrOpen, func(l *lot) { l.journal = "open" }),
		refused(api.ErrNone, func(l *lot) { l.bundle = "" }),
		{said{api.ErrDigest, faceOf(spoilt, wrongWidth).Blobs[3].ID}, func(l *lot) {
			if l.bundle != "" {
				l.bundle = spoilt
			}
		}},
		refused(api.ErrCache, func(l *lot) { l.badTable = true }),
	}, ofTheCache()...)
}

// wantFirst goes through all sets of wrongs: the one that stands first is told, the
// words say the same, and nothing is turned.
func wantFirst(t *testing.T, list []wrong, call func(l *lot, from source) doing) {
	t.Helper()
	for set := range 1 << len(list) {
		l, first, what := newLot(), said{}, "wrong:"
		for k, w := range list {
			if set>>k&1 == 1 {
				w.spoil(l)
				what += fmt.Sprint(" ", w.code)
				if first.code == api.OK {
					first = w.said
				}
			}
		}
		s, from := l.made(t)
		before, open := s.disk.Files(), s.cache.Pending()
		s.want(t, what, call(l, from), first.code, first.id)
		if first.code == api.OK || l.off {
			continue
		}
		if !sameFiles(s.disk.Files(), before) || !sameFiles(s.disk.Safe(), before) || s.cache.Pending() != open {
			t.Fatalf("%s: %s, want %s", what, show(s.disk.Files()), show(before))
		}
	}
}

func TestP16_3_TheFirstThatIsWrong(t *testing.T) {
	wantFirst(t, ofImport(), func(l *lot, from source) doing { return importing(l.file, l.policy) })
}

// ofPart are all that Part refuses up to its 3; the kinds of ErrArg and of ErrOff
// stand in it by turns.
func ofPart(turn int) []wrong {
	g := stock(wrongWidth)
	face := faceOf(g.bundle(16), wrongWidth)
	args := []func(l *lot){
		func(l *lot) { l.policy = 0 },
		func(l *lot) { l.results = resultsFrom(1, 33, api.ID{}) },
		func(l *lot) { l.need = ids(65) },
		func(l *lot) { l.need = []api.ID{{2}, {2}} },
	}
	offs := []func(l *lot){
		func(l *lot) { l.off = true },
		func(l *lot) { l.noReader = true },
		func(l *lot) { l.otherDisk = 2 },
		func(l *lot) { l.off, l.otherDisk = true, 1 },
	}
	last := face.Blobs[5]
	return append([]wrong{
		refused(api.ErrArg, args[turn]),
		refused(api.ErrOff, offs[turn]),
		refused(api.ErrOpen, func(l *lot) { l.journal = "open" }),
		refused(api.ErrCache, func(l *lot) { l.badTable = true }),
		{said{api.ErrBlock, last.ID}, func(l *lot) { l.spoilt = face.Blocks[(last.At+last.N-1)/16].At }},
	}, ofTheCache()...)
}

func TestP16_4_TheFirstThatIsWrong(t *testing.T) {
	for turn := range 4 {
		wantFirst(t, ofPart(turn), func(l *lot, from source) doing { return taking(from, l.results, l.need, l.policy) })
	}
}

// ofResume are all kinds of what Resume refuses, each alone; those of the blobs are
// told by their ids.
func ofResume() []wrong {
	g := stock(wrongWidth)
	list := g.inOrder()
	face := faceOf(g.bundle(16), wrongWidth)
	journal := func(l *lot, turn func(j *api.Journal)) {
		j, is := decodeByWords(l.journal)
		if !is {
			return // none, or none that could be turned
		}
		turn(&j)
		l.journal = formByWords(j)
	}
	last := face.Blobs[5]
	clashing, others := clash(wrongWidth, list[3]), strangers(wrongWidth, 128, g.blobs...)
	return []wrong{
		refused(api.ErrOff, func(l *lot) { l.off = true }),
		refused(api.ErrNoImport, func(l *lot) { l.journal = "" }),
		refused(api.ErrJournal, func(l *lot) {
			if l.journal != "" {
				l.journal += "\x00"
			}
		}),
		refused(api.ErrOther, func(l *lot) { journal(l, func(j *api.Journal) { j.Index ^= 1 }) }),
		{said{api.ErrOther, last.ID}, func(l *lot) { l.spoilt = face.Blocks[(last.At+last.N-1)/16].At }},
		{said{api.ErrOther, g.id(list[3])}, func(l *lot) { l.held = append(l.held, clashing) }},
		{said{api.ErrBlobs, g.id(list[1])}, func(l *lot) { l.held = append(l.held, others[:128-len(l.held)]...) }},
		{said{api.ErrFull, g.id(list[2])}, func(l *lot) { l.plan = api.Plan{From: 7, To: 7} }},
		{said{api.ErrOther, api.ID{1}}, func(l *lot) {
			journal(l, func(j *api.Journal) { j.Results = append([]api.Result{res(1, api.ID{1}, 0)}, j.Results...) })
		}},
		refused(api.ErrFull, func(l *lot) { l.plan.To = 99; l.plan.From = max(l.plan.From, 26) }),
	}
}

// All sets of them: the one that stands first is told, of those of the blobs the
// one of the least id. (They are spoilt backwards: no journal is turned that is
// none by then.)
func TestP16_5_TheFirstThatIsWrong(t *testing.T) {
	g, list := stock(wrongWidth), ofResume()
	ranks := []int{1, 2, 3, 4, 5, 5, 5, 5, 6, 7}
	for set := range 1 << len(list) {
		l, what, first, rank := newLot(), "wrong:", said{}, 8
		l.journal = formByWords(g.journal(16, g.results...))
		for k := len(list) - 1; k >= 0; k-- {
			if set>>k&1 == 0 {
				continue
			}
			w := list[k]
			w.spoil(l)
			what += fmt.Sprint(" ", w.code)
			if ranks[k] < rank || bytes.Compare(w.id[:], first.id[:]) < 0 {
				rank, first = ranks[k], w.said
			}
		}
		s, _ := l.made(t)
		s.want(t, what, resuming(), first.code, first.id)
		isOpen := first.code != api.OK && first.code != api.ErrNoImport
		if !l.off && s.cache.Pending() != isOpen {
			t.Fatalf("%s: open %t", what, s.cache.Pending())
		}
	}
}
