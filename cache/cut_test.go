package cache_test

import (
	"fmt"
	"slices"
	"strings"
	"testing"

	"freight/api"
	"freight/cache"
	"freight/disk"
)

// change is a changing call, and the file that it is about.
type change struct {
	text, about string
	call        func(c *cache.Cache) error
}

// changes are all changing calls, each of them with something to do on stores.
func changes() []change {
	_, root := stock()
	one := []api.Result{res(1, root, 0), res(9, root, 4)}
	return []change{
		{"Put", nameOf(id1("a new one")), func(c *cache.Cache) error { return only(c.Put([]byte("a new one"))) }},
		{"Put no bytes", nameOf(id1("")), func(c *cache.Cache) error { return only(c.Put(nil)) }},
		{"Put over damage", nameOf(id1("whole")), func(c *cache.Cache) error { return only(c.Put([]byte("whole"))) }},
		{"Lay", nameOf(id1("a new one")), func(c *cache.Cache) error { return only(c.Lay([]byte("a new one"))) }},
		{"Lay over damage", nameOf(id1("whole")), func(c *cache.Cache) error { return only(c.Lay([]byte("whole"))) }},
		{"Set", "c.a.table", func(c *cache.Cache) error { return c.Set(res(7, root, 7)) }},
		{"Swap", "c.a.table", func(c *cache.Cache) error { return c.Swap(one) }},
		{"Drop", nameOf(id1("pallet")), func(c *cache.Cache) error { return c.Drop(id1("pallet")) }},
		{"Drop damage", nameOf(id1("whole")), func(c *cache.Cache) error { return c.Drop(id1("whole")) }},
	}
}

// stores are disks on which all is safe: with and without a table, with and
// without drafts of the file that the call is about, of others, and of another
// cache.
func stores(t *testing.T, about string) []*disk.Disk {
	t.Helper()
	files, root := stock()
	files = append(files, damage("whole", "damage"), of("c.ab.table", "\x00"), of("+c.ab.table", "draft"))
	var disks []*disk.Disk
	for _, tables := range [][]api.FileBytes{nil, {of("c.a.table", tableOf(res(2, root, 0), res(7, root, 1)))}} {
		for _, drafts := range [][]api.FileBytes{nil, {of("+"+about, "left")}, {of("+c.a.b.zz", "left"), of("+c.a.import", "x")}} {
			disks = append(disks, mustLoad(t, 10000, slices.Concat(files, tables, drafts)...))
		}
	}
	return disks
}

// onTwin is the cache a on a twin, to which the drafts that Open takes away are
// given again.
func onTwin(t *testing.T, d *disk.Disk) (*disk.Disk, *cache.Cache) {
	t.Helper()
	var others []api.FileBytes
	for _, f := range d.Files() {
		if strings.HasPrefix(f.Name, "+c.a.") {
			others = append(others, f)
		}
	}
	w := d.Twin()
	c := mustOpen(t, w, "a", 1)
	for _, f := range others {
		hand(t, w, f.Name, string(f.Data))
	}
	w.Crash()
	if !same(w.Files(), d.Files()) {
		t.Fatal("another disk")
	}
	return w, c
}

// asMap are files by their names.
func asMap(files []api.FileBytes) map[string]string {
	m := map[string]string{}
	for _, f := range files {
		m[f.Name] = string(f.Data)
	}
	return m
}

func isDraft(name string) bool { return strings.HasPrefix(name, "+c.a.") }

// wantCutOff asks that a call that was cut off has left what P10.12 lets it.
func wantCutOff(t *testing.T, what, about string, before, behind, now []api.FileBytes) {
	t.Helper()
	was, is, will := asMap(before), asMap(now), asMap(behind)
	names := map[string]int{}
	for _, f := range slices.Concat(before, now) {
		names[f.Name]++
	}
	for name := range names {
		old, wasThere := was[name]
		data, isThere := is[name]
		fresh, willBe := will[name]
		asBefore := isThere == wasThere && data == old
		switch {
		case isDraft(name) && !isThere, asBefore:
		case name == about && isThere == willBe && data == fresh:
		case name == "+"+about && strings.HasPrefix(will[about], data):
		default:
			t.Errorf("%s: %s is %.40q (there %t), was %.40q (there %t)", what, name, data, isThere, old, wasThere)
		}
	}
}

// wantOpened asks what the next Open leaves: all but the drafts.
func wantOpened(t *testing.T, what string, d *disk.Disk) *cache.Cache {
	t.Helper()
	want := slices.DeleteFunc(d.Files(), func(f api.FileBytes) bool { return isDraft(f.Name) })
	c, err := cache.Open(d, "a", 1)
	if err != nil || !same(d.Files(), want) || !same(d.Safe(), want) {
		t.Fatalf("%s: Open: %v, %s", what, err, all(d))
	}
	return c
}

func TestP10_11_OKIsSafe(t *testing.T) {
	for _, do := range changes() {
		for _, d := range stores(t, do.about) {
			w, c := onTwin(t, d)
			for range 2 {
				if err := do.call(c); err != nil && api.Code(err) != api.ErrNoBlob {
					t.Fatalf("%s: %v", do.text, err)
				}
				if !same(w.Safe(), w.Files()) {
					t.Errorf("%s: not safe: %s", do.text, all(w))
				}
				for _, picks := range crashes() {
					v := w.Twin()
					v.Crash(picks...)
					if !same(v.Files(), w.Files()) {
						t.Errorf("%s: Crash(%v): %s, want %s", do.text, picks, show(v.Files()), show(w.Files()))
					}
				}
			}
		}
	}
}

// What is refused for room is safe too: nothing of it comes behind a crash.
func TestP10_11_RefusedForRoom(t *testing.T) {
	for _, do := range changes() {
		for _, d := range stores(t, do.about) {
			w, c := onTwin(t, d)
			w.Plan(api.Plan{From: 1, To: 3})
			err := do.call(c)
			if strings.HasPrefix(do.text, "Drop") != (err == nil) || !same(w.Safe(), w.Files()) {
				t.Errorf("%s: %v, %s", do.text, err, all(w))
			}
		}
	}
}

// The power goes off at each stroke of each call, and all crashes come.
func TestP10_12_CutOff(t *testing.T) {
	for _, do := range changes() {
		for _, d := range stores(t, do.about) {
			before := d.Files()
			done, c := onTwin(t, d)
			if err := do.call(c); err != nil {
				t.Fatalf("%s: %v", do.text, err)
			}
			for at := 1; at <= done.Strokes(); at++ {
				w, c := onTwin(t, d)
				w.Plan(api.Plan{Off: at})
				if err := do.call(c); api.Code(err) != api.ErrOff {
					t.Fatalf("%s, off at %d: %v", do.text, at, err)
				}
				for _, picks := range crashes() {
					what := fmt.Sprintf("%s: %s, off at %d, Crash(%v)", show(before), do.text, at, picks)
					v := w.Twin()
					v.Crash(picks...)
					wantCutOff(t, what, do.about, before, done.Files(), v.Files())
					wantDoneAtLast(t, what, do, v, done)
				}
			}
		}
	}
}

// wantDoneAtLast opens the cache and does the call once more.
func wantDoneAtLast(t *testing.T, what string, do change, d, done *disk.Disk) {
	t.Helper()
	c := wantOpened(t, what, d)
	if err := do.call(c); err != nil && api.Code(err) != api.ErrNoBlob {
		t.Errorf("%s, once more: %v", what, err)
	}
	want := slices.DeleteFunc(done.Files(), func(f api.FileBytes) bool { return isDraft(f.Name) })
	if !same(d.Files(), want) {
		t.Errorf("%s, once more: %s, want %s", what, show(d.Files()), show(want))
	}
}

// At some crashes the file is there, at others it is not; a draft too.
func TestP10_12_BothAreMet(t *testing.T) {
	met := map[string]int{}
	d := stores(t, "c.a.table")[0]
	for at := 1; at <= 5; at++ {
		for _, picks := range crashes() {
			w, c := onTwin(t, d)
			w.Plan(api.Plan{Off: at})
			c.Put([]byte("a new one"))
			w.Crash(picks...)
			files := asMap(w.Files())
			_, isThere := files[nameOf(id1("a new one"))]
			draft, isDraft := files["+"+nameOf(id1("a new one"))]
			met[fmt.Sprintf("there %t, draft %t, whole %t", isThere, isDraft, draft == "a new one")]++
		}
	}
	for _, want := range []string{"there false, draft false, whole false", "there false, draft true, whole false", "there false, draft true, whole true", "there true, draft false, whole false"} {
		if met[want] == 0 {
			t.Errorf("no crash left: %s; but %v", want, met)
		}
	}
}

// Several crashes behind one another: calls are cut off, Opens are cut off, and
// at each time the cache is as ahead of it, or as behind it.
func TestP10_12_SeveralCrashes(t *testing.T) {
	r := noise()
	list := changes()
	for range 300 {
		d := stores(t, "c.a.table")[r.IntN(6)].Twin()
		for range 1 + r.IntN(6) {
			do := list[r.IntN(len(list))]
			picks := []int{r.IntN(9), r.IntN(9), r.IntN(9), r.IntN(9), r.IntN(9), r.IntN(9)}
			if r.IntN(3) == 0 {
				wantOpenCutOff(t, d, 1+r.IntN(3), picks)
			}
			before := d.Files()
			done, c := onTwin(t, d)
			do.call(c)
			w, c := onTwin(t, d)
			w.Plan(api.Plan{Off: 1 + r.IntN(6)})
			do.call(c)
			w.Crash(picks...)
			wantCutOff(t, do.text, do.about, before, done.Files(), w.Files())
			w.Crash(picks...)
			d = w
		}
		wantTableReads(t, wantOpened(t, "at last", d))
	}
}

// wantOpenCutOff asks that an Open that is cut off takes drafts alone.
func wantOpenCutOff(t *testing.T, d *disk.Disk, at int, picks []int) {
	t.Helper()
	before := d.Files()
	d.Plan(api.Plan{Off: at})
	cache.Open(d, "a", 1)
	d.Crash(picks...)
	wantCutOff(t, "Open", "", before, before, d.Files())
}

// wantTableReads asks that a cache has a table, and that no blob was torn.
func wantTableReads(t *testing.T, c *cache.Cache) {
	t.Helper()
	if _, err := c.Table(); err != nil {
		t.Errorf("Table: %v", err)
	}
	ids, err := c.Blobs()
	if err != nil {
		t.Errorf("Blobs: %v", err)
	}
	for _, id := range ids {
		if _, err := c.Get(id); err != nil && id != id1("whole") {
			t.Errorf("Get(%s): %v", short(id), err)
		}
	}
}

// Refused, the power being on: at each stroke there is no room.
func TestP10_12_RefusedForRoom(t *testing.T) {
	for _, do := range changes() {
		for _, d := range stores(t, do.about) {
			for _, plan := range []api.Plan{{From: 1, To: 1}, {From: 2, To: 2}, {From: 3, To: 3}, {From: 1, To: 9}, {From: 2, To: 9}} {
				w, c := onTwin(t, d)
				w.Plan(plan)
				err := do.call(c)
				if err == nil {
					continue
				}
				if api.Code(err) != api.ErrFull {
					t.Errorf("%s, %v: %v", do.text, plan, err)
				}
				wantCutOff(t, fmt.Sprintf("%s, %v", do.text, plan), "", d.Files(), d.Files(), w.Files())
				wantOpened(t, do.text, w)
			}
		}
	}
}

// Refused for room, and the power goes off within that.
func TestP10_12_RefusedForRoomAndCutOff(t *testing.T) {
	for _, do := range changes() {
		for _, d := range stores(t, do.about) {
			for at := 1; at <= 6; at++ {
				w, c := onTwin(t, d)
				w.Plan(api.Plan{From: 1, To: 3, Off: at})
				do.call(c)
				if strings.HasPrefix(do.text, "Drop") {
					continue
				}
				for _, picks := range crashes() {
					v := w.Twin()
					v.Crash(picks...)
					wantCutOff(t, fmt.Sprintf("%s, off at %d", do.text, at), "", d.Files(), d.Files(), asIfNoDraft(v.Files(), "+"+do.about, d.Files()))
					wantOpened(t, do.text, v)
				}
			}
		}
	}
}

// asIfNoDraft leaves out the one more draft that there may be.
func asIfNoDraft(now []api.FileBytes, draft string, before []api.FileBytes) []api.FileBytes {
	if _, was := asMap(before)[draft]; was {
		return now
	}
	return slices.DeleteFunc(slices.Clone(now), func(f api.FileBytes) bool { return f.Name == draft })
}
