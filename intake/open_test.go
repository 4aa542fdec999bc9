package intake_test

import (
	"fmt"
	"slices"
	"testing"

	"freight/api"
	"freight/cache"
	"freight/intake"
)

// noStores are a nil Cache and a zero one: they have no disk and no name.
func noStores() []*store { return []*store{{}, {cache: &cache.Cache{}}} }

// noForms are files that hold no journal.
func noForms() []string {
	form := formByWords(full())
	return []string{"", "\x00", "J", "import", form[:len(form)-1], form + "\x00", turned(form, 3), tableForm(nil), times(9000, "J"), summed(bodyByWords(full()) + "\x00"),
		formByWords(with(func(j *api.Journal) { j.Bundle = "F" })), formByWords(with(func(j *api.Journal) { j.Need = ids(65) }))}
}

func TestP16_2_NoCache(t *testing.T) {
	for _, s := range noStores() {
		s.wantNoJournal(t, "no cache", api.ErrOff)
	}
}

// Whether there is a file or not, and whatever it holds.
func TestP16_2_Off(t *testing.T) {
	for _, data := range append(noForms(), formByWords(full())) {
		s := stored(t, 32, nil, nil, of("c.a.import", data))
		darken(t, s.disk)
		s.wantNoJournal(t, "off", api.ErrOff)
		s.disk.Crash()
		if _, err := intake.Journal(s.cache); api.Code(err) == api.ErrOff {
			t.Error("the power is on again")
		}
	}
	s := stored(t, 32, nil, nil)
	darken(t, s.disk)
	s.wantNoJournal(t, "off, no file", api.ErrOff)
}

// Files of names that are near are no import's.
func TestP16_2_NoImport(t *testing.T) {
	form := formByWords(full())
	s := stored(t, 32, []string{crate}, nil, of("c.b.import", form), of("import", form), of("f.import", form), of("c.a.imports", form), of("c.a.b.import", form), of("+c.b.import", form), of("c.aa.import", form))
	s.hand(t, "+c.a.import", form)
	s.wantNoJournal(t, "none", api.ErrNoImport)
	s.wantRefused(t, "none", resuming(), api.ErrNoImport, api.ID{})
	s.wantRefused(t, "none", abandoning(), api.ErrNoImport, api.ID{})
	stored(t, 1, nil, nil).wantNoJournal(t, "an empty disk", api.ErrNoImport)
}

func TestP16_2_NoForm(t *testing.T) {
	for _, data := range noForms() {
		s := stored(t, 32, nil, nil, of("c.a.import", data))
		s.wantNoJournal(t, fmt.Sprintf("%.10q", data), api.ErrJournal)
		s.wantRefused(t, fmt.Sprintf("%.10q", data), resuming(), api.ErrJournal, api.ID{})
		if !s.cache.Pending() {
			t.Error("it is open no more")
		}
	}
}

// Whatever else the cache holds, also where nothing of the journal is there.
func TestP16_2_Journal(t *testing.T) {
	for what, j := range journals() {
		s := stored(t, 8, []string{crate}, nil, of("c.a.import", formByWords(j)), of("c.a.table", "no table"))
		s.wantJournal(t, what, j)
		s.wantJournal(t, what+", again", j)
	}
}

// As the file is now, safe or not.
func TestP16_2_AsItIsNow(t *testing.T) {
	s := stored(t, 32, nil, nil, of("c.a.import", formByWords(full())))
	s.wantJournal(t, "first", full())
	other := with(func(j *api.Journal) { j.Bundle = "f.y" })
	s.disk.WriteAt("c.a.import", 0, []byte(formByWords(other)))
	s.wantJournal(t, "written over", other)
	s.disk.Remove("c.a.import")
	s.wantNoJournal(t, "removed", api.ErrNoImport)
	s.disk.Crash()
	s.wantJournal(t, "behind a crash", full())
}

// Each cache of a disk has its own, and its own name in its faults.
func TestP16_2_EachCache(t *testing.T) {
	mine, theirs := full(), with(func(j *api.Journal) { j.Bundle = "theirs" })
	d := mustLoad(t, api.MaxRoom, of("c.a.import", formByWords(mine)), of("c.b-2.import", formByWords(theirs)), of("c.0.import", "none"))
	opened(t, d, "a", 32).wantJournal(t, "a", mine)
	opened(t, d, "b-2", 1).wantJournal(t, "b-2", theirs)
	opened(t, d, "0", 32).wantNoJournal(t, "0", api.ErrJournal)
	long := opened(t, d, times(32, "z"), 32)
	long.wantNoJournal(t, "long", api.ErrNoImport)
	long.journaled(t, mine).wantJournal(t, "long", mine)
	opened(t, d, "a", 32).want(t, "a", abandoning(), api.OK, api.ID{})
	opened(t, d, "a", 32).wantNoJournal(t, "a", api.ErrNoImport)
	opened(t, d, "b-2", 32).wantJournal(t, "b-2", theirs)
	long.wantJournal(t, "long", mine)
}

func TestP16_6_NoCache(t *testing.T) {
	for _, s := range noStores() {
		s.wantRefused(t, "no cache", abandoning(), api.ErrOff, api.ID{})
		s.wantRefused(t, "no cache", resuming(), api.ErrOff, api.ID{})
	}
}

func TestP16_6_Off(t *testing.T) {
	for _, files := range [][]api.FileBytes{nil, {of("c.a.import", "none")}, {of("c.a.import", formByWords(full()))}} {
		s := stored(t, 32, nil, nil, files...)
		darken(t, s.disk)
		s.wantRefused(t, "off", abandoning(), api.ErrOff, api.ID{})
		s.wantRefused(t, "off", resuming(), api.ErrOff, api.ID{})
	}
}

// The strokes of Drop alone: the journal is not read, the blobs and the table
// stay, the bundle and the drafts too.
func TestP16_6_Abandon(t *testing.T) {
	g := stock(32)
	for _, data := range append(noForms(), formByWords(full()), formByWords(g.journal(64))) {
		s := shelved(t, g, g.blobs[:3], g.results[:1], of("c.a.import", data), of("c.b.import", "theirs"))
		s.hand(t, "+c.a.import", "a draft")
		s.disk.Look()
		before := s.disk.Twin()
		s.want(t, fmt.Sprintf("%.10q", data), abandoning(), api.OK, api.ID{})
		if got := s.disk.Strokes() - before.Strokes(); got != 2 {
			t.Errorf("%d strokes", got)
		}
		if want := without(before.Files(), "c.a.import"); !sameFiles(s.disk.Files(), want) || !sameFiles(s.disk.Safe(), want) {
			t.Errorf("%s, want %s", show(s.disk.Files()), show(want))
		}
		if s.cache.Pending() {
			t.Error("it is open")
		}
		s.wantHolds(t, "abandoned", g.blobs[:3], g.results[:1])
		s.wantRefused(t, "again", abandoning(), api.ErrNoImport, api.ID{})
		s.wantRefused(t, "again", resuming(), api.ErrNoImport, api.ID{})
		s.wantNoJournal(t, "again", api.ErrNoImport)
	}
}

// Behind each number of strokes of an import: what was laid stays, and so does the
// table, if it was put.
func TestP16_6_AbandonInTheMidst(t *testing.T) {
	g := stock(32)
	tables := map[int]int{}
	for at := 6; at <= 42; at++ {
		s := shelved(t, g, nil, nil)
		s.disk.Plan(api.Plan{Off: at})
		s.want(t, "cut off", importing("f.x", api.Keep), api.ErrOff, api.ID{})
		s.disk.Crash(slices.Repeat([]int{-1}, 24)...)
		s = opened(t, s.disk, "a", 32)
		if !s.cache.Pending() {
			continue
		}
		before := s.disk.Files()
		table, _ := s.cache.Table()
		tables[len(table)]++
		s.want(t, fmt.Sprint("off at ", at), abandoning(), api.OK, api.ID{})
		if want := without(before, "c.a.import"); !sameFiles(s.disk.Files(), want) || !sameFiles(s.disk.Safe(), want) {
			t.Errorf("off at %d: %s", at, show(s.disk.Files()))
		}
		if err := intake.Import(s.cache, "f.x", api.Fail); err != nil {
			t.Errorf("off at %d: an import behind it: %v", at, err)
		}
		s.wantHolds(t, "imported then", g.blobs, g.results)
	}
	if tables[0] == 0 || tables[4] == 0 || len(tables) != 2 {
		t.Errorf("tables of %v results", tables)
	}
}

func TestP16_6_ThePowerGoesOff(t *testing.T) {
	for at := 1; at <= 2; at++ {
		for _, data := range []string{"none", formByWords(full())} {
			s := stored(t, 32, []string{crate}, nil, of("c.a.import", data))
			before := s.disk.Files()
			s.disk.Plan(api.Plan{Off: at})
			s.want(t, "off", abandoning(), api.ErrOff, api.ID{})
			if s.disk.Strokes() != at {
				t.Errorf("off at %d: %d strokes", at, s.disk.Strokes())
			}
			kept := s.disk.Twin()
			kept.Crash()
			if !sameFiles(kept.Files(), before) {
				t.Errorf("off at %d: %s", at, show(kept.Files()))
			}
			opened(t, kept, "a", 32).want(t, "again", abandoning(), api.OK, api.ID{})
			s.disk.Crash(1)
			if !sameFiles(s.disk.Files(), without(before, "c.a.import")) {
				t.Errorf("off at %d: %s", at, show(s.disk.Files()))
			}
			s.wantRefused(t, "again", abandoning(), api.ErrNoImport, api.ID{})
		}
	}
}

// No room is needed to end one.
func TestP16_6_NoRoomIsNeeded(t *testing.T) {
	s := stored(t, 32, nil, nil, of("c.a.import", "none"))
	s.disk.Plan(api.Plan{From: 1, To: 99})
	s.want(t, "no room", abandoning(), api.OK, api.ID{})
}

// Right behind each OK, of each call.
func TestP16_9_NoneIsOpen(t *testing.T) {
	g := stock(32)
	for what, d := range map[string]func(s *store) doing{
		"Import": func(s *store) doing { return importing("f.x", api.Keep) },
		"Part": func(s *store) doing {
			return taking(s.reader(t, "f.x"), g.results[1:2], g.needOf(g.results[1]), api.Take)
		},
		"Resume": func(s *store) doing { s.journaled(t, g.journal(64, g.results...)); return resuming() },
	} {
		for _, held := range [][]string{nil, g.blobs[:2], g.blobs} {
			s := shelved(t, g, held, nil)
			s.want(t, what, d(s), api.OK, api.ID{})
			if s.cache.Pending() {
				t.Errorf("%s: it is open", what)
			}
			s.wantNoJournal(t, what, api.ErrNoImport)
			s.wantRefused(t, what, resuming(), api.ErrNoImport, api.ID{})
			s.wantRefused(t, what, abandoning(), api.ErrNoImport, api.ID{})
			s.want(t, what+", once more", d(s), api.OK, api.ID{})
		}
	}
}
