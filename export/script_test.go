package export_test

import (
	"fmt"
	"testing"

	"freight/api"
	"freight/tree"
)

// choice is a number from 0 on, below the one that is handed in.
type choice func(below int) int

// script is a cache on a disk, and the blobs and trees that come into it.
type script struct {
	store *store
	blobs []string
	met   map[api.Errno]int // how often a call said what
}

const scriptWidth = 1

// newScript has few blobs and many trees of them, of a width at which some clash,
// so that what is drawn meets much; one result's trees lie too deep.
func newScript(t testing.TB) *script {
	g := stock(scriptWidth)
	deep := chain(scriptWidth, api.MaxDepth+1, "T\x00")
	g = g.with(deep, res(5, g.id(deep[api.MaxDepth]), 0))
	s := &script{store: stored(t, g, of("x", "a former file")), met: map[api.Errno]int{}, blobs: g.blobs}
	s.blobs = append(s.blobs, "no tree", times(300, "long"), "T")
	return s
}

// grow is a tree of some of the blobs, which may come into the cache later.
func (s *script) grow(choose choice) string {
	var entries []api.Entry
	for i := range choose(4) {
		blob := s.blobs[choose(len(s.blobs))]
		entries = append(entries, api.Entry{Name: fmt.Sprint(i), Kind: 1 + choose(3), ID: idOf(scriptWidth, blob)})
	}
	if data, errno := tree.Encode(entries); errno == api.OK && len(s.blobs) < 30 {
		s.blobs = append(s.blobs, string(data))
	}
	return fmt.Sprint("grow ", len(entries))
}

// change does something to the cache or its disk.
func (s *script) change(t testing.TB, choose choice) string {
	blob := s.blobs[choose(len(s.blobs))]
	id := idOf(scriptWidth, blob)
	c, d := s.store.cache, s.store.disk
	switch choose(16) {
	case 0, 1, 2, 3:
		_, err := c.Put([]byte(blob))
		return fmt.Sprintf("put %.10q: %d", blob, api.Code(err))
	case 4:
		return s.grow(choose)
	case 5, 6:
		return fmt.Sprint("set: ", api.Code(c.Set(res(byte(1+choose(6)), id, choose(3)))))
	case 7:
		results, _ := c.Table()
		for k := range results {
			if choose(4) == 0 {
				results[k].Root = id
			}
		}
		return fmt.Sprint("swap: ", api.Code(c.Swap(results)))
	case 8:
		return fmt.Sprint("drop: ", api.Code(c.Drop(id)))
	case 9:
		name := blobName("a", id)
		return fmt.Sprint("write over: ", d.WriteAt(name, 0, []byte{byte(choose(256))}), d.Sync(name))
	case 10:
		if choose(4) > 0 {
			return "nothing"
		}
		return fmt.Sprint("table by hand: ", d.WriteAt("c.a.table", 0, []byte{byte(choose(8))}))
	case 11:
		d.Remove([]string{"x", "+x", "c.a.import"}[choose(3)])
		return "remove"
	case 12:
		return fmt.Sprint("make: ", d.Create([]string{"x", "+x", "c.a.import"}[choose(3)]))
	case 13:
		d.Plan(api.Plan{Off: choose(9), From: choose(6), To: choose(6)})
		return "plan"
	case 14:
		d.Plan(api.Plan{})
		return "no plan"
	}
	d.Crash(choose(20), choose(200), choose(200), choose(200), choose(200))
	return "crash"
}

// step changes something, or holds a call against the words.
func (s *script) step(t testing.TB, choose choice) string {
	t.Helper()
	if choose(2) == 0 {
		return s.change(t, choose)
	}
	var actions []api.ID
	for range choose(4) {
		actions = append(actions, act(byte(1+choose(5))))
	}
	size := []int{16, 64, 4096, 15, 64, 64}[choose(6)]
	if choose(2) == 0 {
		what := fmt.Sprint("build ", len(actions), " ", size)
		s.met[s.store.wantBuilt(t, what, actions, size)]++
		return what
	}
	name := []string{"x", "y", "+x", "x"}[choose(4)]
	what := fmt.Sprint("export ", len(actions), " ", size, " ", name)
	s.met[s.store.wantExported(t, what, actions, size, name)]++
	return what
}

// Changes of the cache and by hand, plans, crashes and calls in any order.
func TestScripts(t *testing.T) {
	r := noise()
	met := map[api.Errno]int{}
	for i := range 800 {
		s := newScript(t)
		s.met = met
		var steps []string
		for range 40 {
			steps = append(steps, s.step(t, r.IntN))
			if t.Failed() {
				t.Fatalf("script %d: %q", i, steps)
			}
		}
	}
	for _, errno := range []api.Errno{api.OK, api.ErrArg, api.ErrName, api.ErrOff, api.ErrCache, api.ErrNoAction, api.ErrNoTree, api.ErrDeep, api.ErrMissing, api.ErrFull} {
		if met[errno] < 50 {
			t.Errorf("%d is met %d times", errno, met[errno])
		}
	}
}

func FuzzAsTheWordsSay(f *testing.F) {
	f.Add([]byte{})
	f.Add([]byte{1, 2, 0, 1, 1, 1, 0, 0, 2, 3, 1, 1, 2, 1, 0, 1, 1, 0})
	f.Fuzz(func(t *testing.T, draws []byte) {
		s := newScript(t)
		choose := func(below int) int {
			if len(draws) == 0 {
				return 0
			}
			first := int(draws[0])
			draws = draws[1:]
			return first % below
		}
		for n := 0; len(draws) > 0 && n < 200; n++ {
			s.step(t, choose)
		}
	})
}
