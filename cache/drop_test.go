package cache_test

import (
	"testing"

	"freight/api"
)

func TestP10_9_Drop(t *testing.T) {
	files, root := stock()
	d, c := made(t, files...)
	for _, f := range files {
		id := id1(string(f.Data))
		wantStrokes(t, "Drop", d, 2, func() { wantDrop(t, c, id, api.ID{}, api.OK) })
		wantNoGet(t, c, id, id, api.ErrNoBlob)
		wantNothing(t, "Drop again", d, func() { wantDrop(t, c, id, id, api.ErrNoBlob) })
	}
	if len(d.Files()) != 0 || len(d.Safe()) != 0 {
		t.Errorf("all dropped: %s", all(d))
	}
	wantDrop(t, c, root, root, api.ErrNoBlob)
}

func TestP10_9_NoBlob(t *testing.T) {
	pallet := id1("pallet")
	d, c := made(t, append(nobodys(), blob("pallet"), of("c.ab.b."+inHex(id1("crate")), "crate"), of("c.a.table", "\x00"))...)
	wantNothing(t, "no such blob", d, func() {
		for _, id := range []api.ID{{}, {pallet[0] + 1}, {pallet[0], 1}, {0: pallet[0], 31: 1}, id1("crate")} {
			wantDrop(t, c, id, id, api.ErrNoBlob)
		}
	})
}

// Damage goes too, and what the table needs.
func TestP10_9_DamageAndWhatIsNeeded(t *testing.T) {
	for _, bad := range []string{"", "x", times(5000, "x")} {
		d, c := made(t, damage("pallet", bad))
		wantDrop(t, c, id1("pallet"), api.ID{}, api.OK)
		wantBlobs(t, c)
		if len(d.Files()) != 0 {
			t.Errorf("%s", all(d))
		}
	}
	files, root := stock()
	files = append(files, of("c.a.table", tableOf(res(1, root, 0))))
	_, c := made(t, files...)
	wantDrop(t, c, root, api.ID{}, api.OK)
	wantDrop(t, c, id1("pallet"), api.ID{}, api.OK)
	wantTable(t, c, res(1, root, 0))
	d, c := made(t, blob("pallet"), of("c.a.table", "\x09"))
	wantDrop(t, c, id1("pallet"), api.ID{}, api.OK)
	if !same(d.Files(), []api.FileBytes{of("c.a.table", "\x09")}) {
		t.Errorf("%s", all(d))
	}
}

// Each refusal ahead of those behind it.
func TestP10_9_OrderOfErrors(t *testing.T) {
	d, c := off(t, blob("pallet"), of("c.a.import", ""))
	lacking := api.ID{31: 1}
	wantDrop(t, c, id1("pallet"), api.ID{}, api.ErrOff)
	wantDrop(t, c, lacking, api.ID{}, api.ErrOff)
	d.Crash()
	wantNothing(t, "an import is open", d, func() {
		wantDrop(t, c, id1("pallet"), api.ID{}, api.ErrOpen)
		wantDrop(t, c, lacking, api.ID{}, api.ErrOpen)
	})
	away(t, d, "c.a.import")
	wantDrop(t, c, lacking, lacking, api.ErrNoBlob)
	wantDrop(t, c, id1("pallet"), api.ID{}, api.OK)
}

// A full disk is no hindrance.
func TestP10_9_NoRoomIsNeeded(t *testing.T) {
	for _, what := range []api.Errno{api.ErrFull, api.ErrFiles} {
		d, c := full(t, what, blob("pallet"))
		d.Plan(api.Plan{From: 1, To: 100})
		wantDrop(t, c, id1("pallet"), api.ID{}, api.OK)
	}
}
