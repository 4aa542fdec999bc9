package cache_test

import (
	"testing"

	"freight/api"
	"freight/cache"
)

// The chapter's rows, one behind the other, on one disk.
func TestExamples(t *testing.T) {
	pallet, crate := api.ID{0xb8}, api.ID{0x71}
	d := mustLoad(t, 4000)
	wantNotOpened(t, d, "", 1, api.ErrName)
	wantNotOpened(t, d, "a.b", 1, api.ErrName)
	wantNotOpened(t, d, "a", 33, api.ErrArg)
	wantNotOpened(t, nil, "a", 1, api.ErrOff)

	c := mustOpen(t, d, "a", 1)
	if d.Strokes() != 0 {
		t.Errorf("Open: %d strokes", d.Strokes())
	}
	wantBlobs(t, c)
	wantTable(t, c)
	if c.Pending() {
		t.Error("Pending: true")
	}
	wantNoGet(t, c, pallet, pallet, api.ErrNoBlob)

	file := "c.a.b.b8" + times(62, "0")
	for range 2 {
		if id, err := c.Put([]byte("pallet")); id != pallet || err != nil || d.Strokes() != 5 {
			t.Errorf("Put: %s, %v, %d strokes", short(id), err, d.Strokes())
		}
	}
	if !same(d.Files(), []api.FileBytes{of(file, "pallet")}) {
		t.Errorf("Put: %s", all(d))
	}
	wantSet(t, c, res(1, pallet, 0), pallet, api.ErrNoTree)
	wantSet(t, c, res(1, crate, 0), crate, api.ErrMissing)
	wantSet(t, c, res(1, crate, 256), api.ID{}, api.ErrArg)

	hand(t, d, file, "crate 7 of 31")
	wantNoGet(t, c, pallet, pallet, api.ErrDamage)
	wantBlobs(t, c, pallet)
	wantPut(t, c, "pallet")
	wantGet(t, c, pallet, "pallet")

	hand(t, d, "c.a.import", "x")
	if !c.Pending() {
		t.Error("Pending: false")
	}
	wantNoPut(t, c, "crate 7 of 31", api.ID{}, api.ErrOpen)
	if id, err := c.Lay([]byte("crate 7 of 31")); id != crate || err != nil {
		t.Errorf("Lay: %s, %v", short(id), err)
	}
	wantDrop(t, c, pallet, api.ID{}, api.ErrOpen)
	away(t, d, "c.a.import")
	wantDrop(t, c, pallet, api.ID{}, api.OK)
	wantDrop(t, c, pallet, pallet, api.ErrNoBlob)

	hand(t, d, "c.a.table", "\x09")
	wantNoTable(t, c, api.ErrCache)
	wantSet(t, c, res(1, crate, 0), api.ID{}, api.ErrCache)
	wantSwap(t, c, nil, api.OK)
	wantTable(t, c)

	before := d.Files()
	d.Plan(api.Plan{Off: 4})
	wantNoPut(t, c, "z", api.ID{}, api.ErrOff)
	d.Crash()
	if _, err := cache.Open(d, "a", 1); err != nil || !same(d.Files(), before) {
		t.Errorf("Open: %v, %s", err, all(d))
	}
}

// The last row with other crashes: the file that was put is there, or a + file goes.
func TestExamples_OtherCrashes(t *testing.T) {
	for _, picks := range crashes() {
		d, c := made(t, blob("pallet"))
		d.Plan(api.Plan{Off: 4})
		wantNoPut(t, c, "z", api.ID{}, api.ErrOff)
		d.Crash(picks...)
		mustOpen(t, d, "a", 1)
		with, without := mustLoad(t, 100, blob("pallet"), blob("z")), mustLoad(t, 100, blob("pallet"))
		if !same(d.Files(), with.Files()) && !same(d.Files(), without.Files()) {
			t.Errorf("Crash(%v): %s", picks, all(d))
		}
	}
}
