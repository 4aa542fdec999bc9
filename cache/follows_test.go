package cache_test

import (
	"fmt"
	"strings"
	"testing"

	"freight/api"
	"freight/cache"
	"freight/disk"
)

// pairs are names of two caches, of which some begin with the other.
func pairs() [][2]string {
	return [][2]string{{"a", "b"}, {"a", "ab"}, {"a", "a-"}, {"a", "aa"}, {"b", "b-b"}, {"table", "import"}, {"a", times(32, "a")}, {times(31, "z"), times(32, "z")}}
}

// onIts lays or takes away a file of a cache's own, by hand.
func (g goods) onIts(choose choice) func(d *disk.Disk, cache string) {
	part := []string{"table", "import", "b." + inHex(g.ids[choose(len(g.ids))]), "b.zz"}[choose(4)]
	sign := []string{"c.", "c.", "+c."}[choose(3)]
	form, gone := g.forms[choose(len(g.forms))], choose(2) == 0
	return func(d *disk.Disk, cache string) {
		name := sign + cache + "." + part
		d.Remove(name)
		if !gone {
			d.Create(name)
			d.Append(name, []byte(form))
		}
	}
}

// saysOf is what a call says, and what its fault names.
func saysOf(c *cache.Cache, do call) string {
	tells, err := do.onCache(c)
	fault, is := err.(*api.Fault)
	if !is {
		return fmt.Sprintf("%q %v", tells, err)
	}
	return fmt.Sprintf("%q %d %s %s %s", tells, api.Code(err), fault.Op, fault.Name, short(fault.ID))
}

// own are the files of a cache.
func own(d *disk.Disk, cache string) []api.FileBytes {
	var files []api.FileBytes
	for _, f := range d.Files() {
		if strings.HasPrefix(strings.TrimPrefix(f.Name, "+"), "c."+cache+".") {
			files = append(files, f)
		}
	}
	return files
}

// Two caches on one disk in turns say what each says on a disk of its own, and
// have the files that it has there.
func TestP10_13_TwoInTurns(t *testing.T) {
	r, g := noise(), theGoods()
	for i := range 400 {
		names := pairs()[i%len(pairs())]
		both := mustLoad(t, api.MaxRoom)
		var shared, alone [2]*cache.Cache
		for k, name := range names {
			shared[k], alone[k] = mustOpen(t, both, name, 1), mustOpen(t, mustLoad(t, api.MaxRoom), name, 1)
		}
		for range 30 {
			k := r.IntN(2)
			if r.IntN(6) == 0 {
				do := g.onIts(r.IntN)
				do(both, names[k])
				do(alone[k].Disk(), names[k])
				continue
			}
			do := g.anyCallAbove(r.IntN)
			got, want := saysOf(shared[k], do), saysOf(alone[k], do)
			if got != want {
				t.Fatalf("%q of %q: %s: %.300s, alone %.300s", names[k], names, do.text, got, want)
			}
		}
		for k, name := range names {
			if !same(own(both, name), alone[k].Disk().Files()) {
				t.Fatalf("%q of %q: %s, alone %s", name, names, show(own(both, name)), all(alone[k].Disk()))
			}
		}
	}
}

// No stroke of one makes the other's files others, though it is cut off.
func TestP10_13_CutOffInTurns(t *testing.T) {
	for _, names := range pairs() {
		for _, name := range names {
			files, root := stock()
			var both []api.FileBytes
			for _, f := range files {
				for _, n := range names {
					both = append(both, of(strings.Replace(f.Name, "c.a.", "c."+n+".", 1), string(f.Data)))
				}
			}
			for _, n := range names {
				both = append(both, of("+c."+n+".table", "draft"))
			}
			d := mustLoad(t, 100000, both...)
			for at := range 9 {
				w := d.Twin()
				c := mustOpen(t, w, name, 1)
				w.Plan(api.Plan{Off: at})
				c.Set(res(1, root, 0))
				c.Put([]byte("a new one"))
				c.Drop(id1("pallet"))
				w.Crash(2, 1, 1, 1, 1)
				cache.Open(w, name, 1)
				for _, other := range names {
					if other != name && !same(own(w, other), own(d, other)) {
						t.Errorf("%q: off at %d: %s", names, at, all(w))
					}
				}
			}
		}
	}
}

// Two Caches of one name on one disk are one.
func TestP10_13_TwoOfOneName(t *testing.T) {
	r, g := noise(), theGoods()
	for range 200 {
		both, single := mustLoad(t, 20000), mustLoad(t, 20000)
		two := []*cache.Cache{mustOpen(t, both, "a", 1), mustOpen(t, both, "a", 1)}
		one := mustOpen(t, single, "a", 1)
		for range 30 {
			do := g.anyCallAbove(r.IntN)
			if r.IntN(6) == 0 {
				do = g.anyCallBeneath(r.IntN)
			}
			if got, want := saysOf(two[r.IntN(2)], do), saysOf(one, do); got != want || !alike(both, single) {
				t.Fatalf("%s: %.300s, want %.300s; %s", do.text, got, want, all(both))
			}
		}
	}
}

// The room and the number of files are both's.
func TestP10_13_RoomIsBoths(t *testing.T) {
	d := mustLoad(t, 10)
	a, b := mustOpen(t, d, "a", 1), mustOpen(t, d, "b", 1)
	wantPut(t, a, "123456")
	wantNoPut(t, b, "123456", api.ID{}, api.ErrFull)
	wantDrop(t, a, id1("123456"), api.ID{}, api.OK)
	wantPut(t, b, "123456")
	files := append(many(254), of("c.a.import", ""))
	d = mustLoad(t, 100, files...)
	a, b = mustOpen(t, d, "a", 1), mustOpen(t, d, "b", 1)
	wantPut(t, b, "x")
	wantNotLaid(t, layers()[1], a, "x", api.ID{}, api.ErrFiles)
}

func TestP10_14_PutThenGet(t *testing.T) {
	r := noise()
	for width := 1; width <= 32; width++ {
		d := mustLoad(t, api.MaxRoom)
		c := mustOpen(t, d, "a", width)
		for range 20 {
			data := make([]byte, r.IntN(200))
			for i := range data {
				data[i] = byte(r.IntN(256))
			}
			id, err := c.Put(data)
			if api.Code(err) == api.ErrCollision && width == 1 {
				continue
			}
			if err != nil || id != idOf(width, string(data)) {
				t.Fatalf("Put: %s, %v", short(id), err)
			}
			wantGet(t, c, id, string(data))
			wantNothing(t, "Put again", d, func() { wantPut(t, c, string(data)) })
		}
	}
}

// Whatever calls come: what Get answers has its id and stays, but for Drop.
func TestP10_14_OnlyDropTakesAway(t *testing.T) {
	r, g := noise(), theGoods()
	dropped := 0
	for range 300 {
		d := mustLoad(t, 9000, blob("pallet"), damage(g.rows[3], g.rows[4]), damage("crate 7 of 31", "damage"), blob(treeOf()))
		c := mustOpen(t, d, "a", 1)
		had := map[api.ID]string{}
		for range 30 {
			if r.IntN(5) == 0 {
				d.Plan(api.Plan{From: 1 + r.IntN(5), To: r.IntN(9)})
			}
			do := g.anyCallAbove(r.IntN)
			do.onCache(c)
			for _, id := range g.ids {
				data, err := c.Get(id)
				before, was := had[id]
				switch {
				case err == nil && (id1(string(data)) != id || len(data) > api.MaxBlob):
					t.Fatalf("%s: Get(%s) is %.40q", do.text, short(id), data)
				case was && err != nil && do.text != drop(id).text:
					t.Fatalf("%s: Get(%s): %v", do.text, short(id), err)
				case was && err != nil:
					wantNoGet(t, c, id, id, api.ErrNoBlob)
					delete(had, id)
					dropped++
				case was && before != string(data):
					t.Fatalf("%s: Get(%s) is %.40q, was %.40q", do.text, short(id), data, before)
				case err == nil:
					had[id] = string(data)
				}
			}
		}
	}
	if dropped < 50 {
		t.Errorf("%d were dropped", dropped)
	}
}

// Crashes too: what was there is there, as it was.
func TestP10_14_ThroughCrashes(t *testing.T) {
	r, g := noise(), theGoods()
	for range 200 {
		d := mustLoad(t, 9000, blob("pallet"), blob(treeOf()), damage("crate 7 of 31", "damage"))
		for range 8 {
			c := mustOpen(t, d, "a", 1)
			before := map[api.ID]string{}
			for _, id := range g.ids {
				if data, err := c.Get(id); err == nil {
					before[id] = string(data)
				}
			}
			d.Plan(api.Plan{Off: 1 + r.IntN(6)})
			do := g.anyCallAbove(r.IntN)
			do.onCache(c)
			d.Crash(r.IntN(5), r.IntN(5), r.IntN(5), r.IntN(5), r.IntN(5))
			for id, data := range before {
				if got, err := c.Get(id); do.text != drop(id).text && (err != nil || string(got) != data) {
					t.Fatalf("%s: Get(%s): %.40q, %v", do.text, short(id), got, err)
				}
			}
		}
	}
}
