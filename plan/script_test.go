package plan_test

import (
	"errors"
	"fmt"
	"slices"
	"testing"

	"freight/api"
	"freight/reach"
)

// choice is a number from 0 on, below the one that is handed in.
type choice func(below int) int

const scriptWidth = 1

// script is a cache on a disk, and the blobs that come into it.
type script struct {
	store *store
	blobs []string
	met   map[api.Errno]int // how often Of said what
}

// newScript has few blobs, of a width at which some clash, and a cache that is
// nearly full of others, so that what is drawn meets much.
func newScript(t testing.TB) *script {
	blobs := numbered(scriptWidth, 9)
	s := &script{met: map[api.Errno]int{}}
	var others []string
	for _, b := range numbered(scriptWidth, api.MaxBlobs+4) {
		if len(others) < api.MaxBlobs-5 && !slices.Contains(idsOf(scriptWidth, blobs...), idOf(scriptWidth, b)) {
			others = append(others, b)
		}
	}
	s.store = stored(t, scriptWidth, others, resultsFrom(40, api.MaxActions-2))
	for k, b := range blobs {
		s.blobs = append(s.blobs, b)
		if k < 2 {
			s.blobs = append(s.blobs, clash(scriptWidth, b))
		}
	}
	return s
}

// change does something to the cache or its disk.
func (s *script) change(choose choice) string {
	blob := s.blobs[choose(len(s.blobs))]
	id := idOf(scriptWidth, blob)
	c, d := s.store.cache, s.store.disk
	switch choose(12) {
	case 0, 1, 2:
		_, err := c.Put([]byte(blob))
		return fmt.Sprintf("put %q: %d", blob, api.Code(err))
	case 3:
		results, _ := c.Table()
		for k := range results {
			results[k].Code = choose(2)
		}
		if len(results) > 0 {
			results = results[:len(results)-choose(2)]
		}
		return fmt.Sprint("swap: ", api.Code(c.Swap(results)))
	case 4, 5:
		return fmt.Sprint("drop: ", api.Code(c.Drop(id)))
	case 6, 7:
		name := blobName("a", id)
		return fmt.Sprint("write over: ", d.WriteAt(name, 0, []byte{byte(choose(256))}), d.Sync(name))
	case 8:
		if choose(4) > 0 {
			return "nothing"
		}
		return fmt.Sprint("table by hand: ", d.WriteAt("c.a.table", 0, []byte{byte(choose(8))}))
	case 9:
		d.Plan(api.Plan{Off: choose(9), From: choose(6), To: choose(6)})
		return "plan"
	case 10:
		return fmt.Sprint("make: ", d.Create([]string{"c.a.import", "+c.a.table", "c.a.b.zz", blobName("a", id)}[choose(4)]))
	}
	d.Crash(choose(20), choose(200), choose(200), choose(200), choose(200))
	return "crash"
}

// source is one of some blobs, which may be wrong.
func (s *script) source(choose choice) reach.Source {
	m, _ := mapOf(scriptWidth, s.blobs...)
	f := failing{m, map[api.ID]error{}}
	id := idOf(scriptWidth, s.blobs[choose(len(s.blobs))])
	switch choose(24) {
	case 0:
		delete(m, id)
	case 1:
		m[id] = make([]byte, api.MaxBlob+1)
	case 2:
		m[id] = []byte("another")
	case 3:
		f.errs[id] = errors.New("no line")
	case 4:
		f.errs[id] = wrapping{api.Errno(choose(4))}
	case 5:
		return s.store.cache
	case 6:
		return nil
	case 7, 8, 9, 10:
		for _, b := range s.blobs {
			if choose(2) == 0 {
				m[idOf(scriptWidth, b)] = []byte(b)
			}
		}
	}
	return f
}

// ask is a call with drawn arguments.
func (s *script) ask(choose choice) asked {
	a := asked{source: s.source(choose), policy: []int{1, 2, 3, 1, 2, 3, 1, 2, 3, 0, 4}[choose(11)]}
	_, ids := mapOf(scriptWidth, s.blobs...)
	for _, id := range slices.Compact(ids) {
		if choose(3) == 0 {
			a.need = append(a.need, id)
		}
	}
	if choose(30) == 0 && len(a.need) > 0 {
		a.need = append(a.need, a.need[choose(len(a.need))])
	}
	for action := 34; action < 46; action++ {
		if choose(4) == 0 {
			like := max(action-40, 0)
			a.results = append(a.results, res(byte(action), 1, []int{like, like, like, 0, 1}[choose(5)]))
		}
	}
	return a
}

// step changes something, or holds a call against the words; at times what it
// answers is carried out.
func (s *script) step(t testing.TB, choose choice) string {
	t.Helper()
	if choose(2) == 0 {
		return s.change(choose)
	}
	a := s.ask(choose)
	what := fmt.Sprint("of ", len(a.results), " results, ", told(a.need), ", policy ", a.policy)
	code := s.store.wantAsTheWordsSay(t, what, a)
	s.met[code]++
	if code != api.OK || choose(3) > 0 {
		return fmt.Sprint(what, ": ", code)
	}
	twin := s.store.disk.Twin()
	twin.Plan(api.Plan{})
	w := opened(t, twin, "a", scriptWidth)
	change, _ := w.ask(a)
	w.carryOut(t, what, a.source, change)
	w.wantChange(t, what+", again", a, nil, change.Table)
	return what + ", carried out"
}

// Changes of the cache and by hand, plans, crashes and calls in any order.
func TestScripts(t *testing.T) {
	r := noise()
	met := map[api.Errno]int{}
	for i := range 150 {
		s := newScript(t)
		s.met = met
		var steps []string
		for range 40 {
			steps = append(steps, s.step(t, r.IntN))
			if t.Failed() {
				t.Fatalf("script %d: %q", i, steps)
			}
		}
	}
	for _, errno := range []api.Errno{api.OK, api.ErrArg, api.ErrOff, api.ErrCache, api.ErrNoBlob, api.ErrMissing, api.ErrLong, api.ErrDigest, api.ErrCollision, api.ErrConflict, api.ErrActions, api.ErrBlobs} {
		if met[errno] < 10 {
			t.Errorf("%d is met %d times", errno, met[errno])
		}
	}
}

func FuzzAsTheWordsSay(f *testing.F) {
	f.Add([]byte{})
	f.Add([]byte{1, 2, 0, 1, 1, 1, 0, 0, 2, 3, 1, 1, 2, 1, 0, 1, 1, 0})
	f.Fuzz(func(t *testing.T, draws []byte) {
		s := newScript(t)
		choose := func(below int) int {
			if len(draws) == 0 {
				return 0
			}
			first := int(draws[0])
			draws = draws[1:]
			return first % below
		}
		for n := 0; len(draws) > 0 && n < 200; n++ {
			s.step(t, choose)
		}
	})
}
