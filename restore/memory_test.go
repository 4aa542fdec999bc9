package restore_test

import (
	"fmt"
	"slices"
	"sync"
	"testing"

	"freight/api"
	"freight/restore"
)

// What is handed to Pick stays as it was, behind its end too, whether it is refused
// or not.
func TestP17_5_PickTakesNothing(t *testing.T) {
	lists := noTables()
	lists["five"], lists["none"], lists["full"] = five(), nil, resultsFrom(1, 32, api.ID{})
	marked, noAction := res(250, api.ID{250}, 250), act(250)
	for what, results := range lists {
		for _, actions := range [][]api.ID{nil, acts(1), acts(5, 1, 5), acts(9, 7, 5, 3, 1), acts(4, 2, 1), acts(255, 0, 255)} {
			handed, asked := spare(results, marked), spare(actions, noAction)
			restore.Pick(handed, asked)
			if !isSpare(handed, results, marked) || !isSpare(asked, actions, noAction) {
				t.Errorf("%s, %v: a list is another", what, actions)
			}
		}
	}
}

// What Pick answers is new memory, its room too: it shares none with what was handed
// in, or with another answer; and it is not kept.
func TestP17_5_PickIsNewMemory(t *testing.T) {
	list := five()
	for set := range 1 << len(list) {
		want := some(list, set)
		results, actions := spare(list, res(250, api.ID{}, 0)), spare(actionsOf(want...), act(250))
		one, err := restore.Pick(results, actions)
		other, _ := restore.Pick(results, actions)
		if err != nil || !slices.Equal(one, want) || !slices.Equal(other, want) {
			t.Fatalf("set %d: %v, %v", set, one, err)
		}
		fill(one, res(99, api.ID{9}, 9))
		if !slices.Equal(other, want) || slices.Contains(other[:cap(other)], res(99, api.ID{9}, 9)) {
			t.Errorf("set %d: two answers share memory", set)
		}
		if !isSpare(results, list, res(250, api.ID{}, 0)) || !isSpare(actions, actionsOf(want...), act(250)) {
			t.Errorf("set %d: an answer shares memory with what was handed in", set)
		}
		fill(results, res(88, api.ID{8}, 8))
		fill(actions, act(88))
		if !slices.Equal(other, want) {
			t.Errorf("set %d: an answer hangs on what was handed in", set)
		}
		if again, err := restore.Pick(list, actionsOf(want...)); err != nil || !slices.Equal(again, want) {
			t.Errorf("set %d, once more: %v, %v", set, again, err)
		}
	}
}

// Also where all of the table is picked, in its own order.
func TestP17_5_AllOfTheTable(t *testing.T) {
	full := resultsFrom(1, 32, api.ID{7})
	got, err := restore.Pick(full, actionsOf(full...))
	if err != nil || !slices.Equal(got, full) {
		t.Fatal(err)
	}
	got[0] = res(99, api.ID{}, 0)
	if full[0] != res(1, api.ID{7}, 0) {
		t.Error("the answer is what was handed in")
	}
}

// The actions that are handed to Restore stay as they were, behind their end too,
// however it ends.
func TestP17_5_RestoreTakesNothing(t *testing.T) {
	for turn := range 4 {
		for _, w := range append(wrongs(turn), wrong{spoil: func(l *lot) {}}) {
			for _, plan := range []api.Plan{{}, {Off: 1}, {Off: 9}, {From: 7, To: 7}} {
				l := newLot()
				w.spoil(l)
				if l.plan == (api.Plan{}) {
					l.plan = plan
				}
				s := l.made(t)
				was := slices.Clone(l.actions)
				l.actions = spare(l.actions, act(250))
				l.ask.of(s)
				if !isSpare(l.actions, was, act(250)) {
					t.Errorf("%d: the actions are others", w.code)
				}
			}
		}
	}
}

// They are not kept: what comes of them later says nothing.
func TestP17_5_RestoreKeepsNothing(t *testing.T) {
	g := stock(8)
	s := shelved(t, g, nil, nil)
	actions := acts(12, 11)
	s.disk.Plan(api.Plan{From: 11, To: 11})
	err := ask{"f.x", actions, api.Keep}.of(s)
	fill(actions, act(99))
	wantFault(t, "no room", err, "restore.restore", "f.x", said{api.ErrFull, g.needOf(g.results[:2]...)[1]})
	s.wantJournal(t, "written over", g.journal(64, g.results[:2], g.results[:2]...))
	err = ask{"f.x", acts(9), api.Keep}.of(shelved(t, g, nil, nil))
	wantFault(t, "no action", err, "restore.restore", "f.x", said{api.ErrNoAction, act(9)})
}

// A nil list and an empty one are the same.
func TestW5_NilAndEmpty(t *testing.T) {
	g := stock(8)
	for _, none := range [][]api.ID{nil, {}, acts(1)[:0]} {
		for _, results := range [][]api.Result{nil, {}, five()[:0], five()} {
			if got, err := restore.Pick(results, none); err != nil || len(got) != 0 {
				t.Errorf("%v, %v", got, err)
			}
		}
		s := shelved(t, g, nil, nil)
		s.want(t, "none", ask{"f.x", none, api.Fail}, api.OK, api.ID{})
		if s.disk.Strokes() != 7 {
			t.Errorf("%d strokes", s.disk.Strokes())
		}
	}
}

// Calls on disks of their own know nothing of each other, and answer the same each
// time.
func TestW2_SideBySide(t *testing.T) {
	g := stock(32)
	first := shelved(t, g, nil, nil)
	first.want(t, "first", ask{"f.x", acts(12, 13), api.Keep}, api.OK, api.ID{})
	var all sync.WaitGroup
	for k := range 16 {
		s := shelved(t, g, nil, nil)
		all.Go(func() {
			if err := (ask{"f.x", acts(13, 12, 13), api.Keep}).of(s); err != nil || !sameFiles(s.disk.Files(), first.disk.Files()) {
				t.Errorf("%d: %v", k, err)
			}
			if _, err := restore.Pick(five(), acts(8, 6, 4, 2)); saidOf(err) != (said{api.ErrNoAction, act(2)}) {
				t.Errorf("%d: %v", k, err)
			}
		})
	}
	all.Wait()
}

// However often it is asked, of however many actions: no order of a map is seen.
func TestW2_AsOftenAsItIsAsked(t *testing.T) {
	full := resultsFrom(1, 32, api.ID{7})
	lacking := acts(200, 150, 100, 175, 125, 101, 255, 180)
	for range 200 {
		if got, err := restore.Pick(full, actionsOf(full...)); err != nil || !slices.Equal(got, full) {
			t.Fatalf("%v, %v", got, err)
		}
		if _, err := restore.Pick(full, lacking); saidOf(err) != (said{api.ErrNoAction, act(100)}) {
			t.Fatalf("%v", err)
		}
	}
	g := apart(32)
	var want []api.FileBytes
	for k := range 20 {
		s := shelved(t, g, nil, nil)
		if err := (ask{"f.x", actionsOf(g.results...), api.Keep}).of(s); err != nil {
			t.Fatal(err)
		}
		if want == nil {
			want = s.disk.Files()
		}
		if !sameFiles(s.disk.Files(), want) {
			t.Fatalf("%d: %s", k, show(s.disk.Files()))
		}
	}
}

// Two caches on one disk: one's restore changes nothing of the other.
func TestW2_AnotherCache(t *testing.T) {
	g := stock(8)
	s := shelved(t, g, []string{crate}, g.results[2:3], of("c.b.table", tableForm(g.results[:1])))
	before := filed(without(s.disk.Files(), "c.b.table"))
	b := opened(t, s.disk, "b", 8)
	b.want(t, "b", ask{"f.x", acts(12), api.Fail}, api.OK, api.ID{})
	b.wantHolds(t, "b", g.part(g.results[1]).blobs, g.results[:2])
	s.wantHolds(t, "a", []string{crate}, g.results[2:3])
	for name, data := range before {
		if now, is := shown(s.disk, name); !is || now != data {
			t.Errorf("%s is another", name)
		}
	}
	b.disk.Plan(api.Plan{From: 6, To: 6})
	b.want(t, "b is open", ask{"f.x", acts(11), api.Fail}, api.ErrFull, g.id(outerFirst(g)))
	s.want(t, "a goes on", ask{"f.x", acts(13), api.Fail}, api.OK, api.ID{})
}

// outerFirst is the blob that the first result needs beside the second, of the least
// id.
func outerFirst(g goods) string {
	had := g.needOf(g.results[1])
	rest := slices.DeleteFunc(g.needOf(g.results[0]), func(id api.ID) bool { return slices.Contains(had, id) })
	return g.blobsOf(rest)[0]
}

// Whatever is handed in, each call ends, and answers.
func TestW1_Whatever(t *testing.T) {
	g := stock(1)
	names := []string{"", "f.x", "F", times(1<<16, "\xff"), "\x00", "+c.a.import", "c.a.table", "c.a.import"}
	numbers := []int{-1 << 63, -1, 0, 1, 2, 3, 4, 1<<63 - 1}
	lists := [][]api.ID{nil, {}, acts(11), acts(11, 12, 13, 14), acts(0, 255), make([]api.ID, 5000), {{255, 31: 255}, {31: 1}}}
	dark := shelved(t, g, nil, nil)
	darken(t, dark.disk)
	for _, name := range names {
		for _, policy := range numbers {
			for k, actions := range lists {
				good := shelved(t, g, nil, nil)
				for _, s := range append(noStores(), dark, good) {
					s.wantAsTheWordsSay(t, fmt.Sprintf("%.10q, %d, %d", name, policy, k), ask{name, actions, policy})
				}
			}
		}
	}
}
