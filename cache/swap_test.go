package cache_test

import (
	"testing"

	"freight/api"
)

func TestP10_10_Swap(t *testing.T) {
	rows := [][]api.Result{{res(1, id1("no such one"), 255)}, actions(32, api.ID{31: 1}), nil, {res(1, api.ID{}, 0)}, {{}}, actions(31, api.ID{})}
	d, c := made(t, blob("pallet"))
	for _, results := range rows {
		wantStrokes(t, "Swap", d, 5, func() { wantSwap(t, c, results, api.OK) })
		wantTable(t, c, results...)
		if want := mustLoad(t, 10000, blob("pallet"), of("c.a.table", tableOf(results...))); !same(d.Files(), want.Files()) || !same(d.Safe(), want.Files()) {
			t.Errorf("Swap: %s", all(d))
		}
		wantNothing(t, "the table that is there", d, func() { wantSwap(t, c, results, api.OK) })
	}
}

func TestP10_10_NoTable(t *testing.T) {
	bad := [][]api.Result{actions(33, api.ID{}), {res(1, api.ID{}, 256)}, {res(1, api.ID{}, -1)}, {res(2, api.ID{}, 0), res(1, api.ID{}, 0)}, {res(1, api.ID{}, 0), res(1, api.ID{}, 0)}, {res(1, api.ID{}, 0), res(1, api.ID{9}, 0)}}
	for _, data := range []string{"\x09", "\x00", tableOf(actions(2, api.ID{})...)} {
		d, c := made(t, of("c.a.table", data))
		for _, results := range bad {
			wantNothing(t, "no table", d, func() { wantSwap(t, c, results, api.ErrArg) })
		}
		darken(t, d)
		for _, results := range bad {
			wantSwap(t, c, results, api.ErrArg)
		}
		wantSwap(t, c, nil, api.ErrOff)
		wantSwap(t, c, actions(2, api.ID{}), api.ErrOff)
	}
}

// The empty one where there is no file: nothing; where there is one that holds
// it: nothing; over any other: its form.
func TestP10_10_Empty(t *testing.T) {
	for _, results := range [][]api.Result{nil, {}} {
		d, c := made(t)
		wantNothing(t, "no file", d, func() { wantSwap(t, c, results, api.OK) })
		d, c = made(t, of("c.a.table", "\x00"))
		wantNothing(t, "the empty table", d, func() { wantSwap(t, c, results, api.OK) })
		d, c = made(t, of("c.a.table", tableOf(actions(2, api.ID{})...)))
		wantStrokes(t, "a table", d, 5, func() { wantSwap(t, c, results, api.OK) })
		if !same(d.Files(), []api.FileBytes{of("c.a.table", "\x00")}) {
			t.Errorf("%s", all(d))
		}
	}
	d, c := made(t)
	wantStrokes(t, "no file, one result", d, 5, func() { wantSwap(t, c, []api.Result{{}}, api.OK) })
}

// Over a file that holds no table, whatever is handed in.
func TestP10_10_OverNoTable(t *testing.T) {
	for _, data := range noTables() {
		for _, results := range [][]api.Result{nil, actions(2, id1("x"))} {
			d, c := made(t, of("c.a.table", data))
			wantStrokes(t, "no table", d, 5, func() { wantSwap(t, c, results, api.OK) })
			wantTable(t, c, results...)
			if !same(d.Files(), []api.FileBytes{of("c.a.table", tableOf(results...))}) {
				t.Errorf("%s", all(d))
			}
		}
	}
}

// One result more, one fewer, another root, another code.
func TestP10_10_NearlyTheSame(t *testing.T) {
	held := actions(3, id1("x"))
	near := [][]api.Result{held[:2], held[1:], actions(4, id1("x")), actions(3, id1("y")), {held[0], held[1], res(4, id1("x"), 3)}, {held[0], held[1], res(5, id1("x"), 2)}}
	for _, results := range near {
		d, c := made(t, of("c.a.table", tableOf(held...)))
		wantStrokes(t, "Swap", d, 5, func() { wantSwap(t, c, results, api.OK) })
		wantTable(t, c, results...)
	}
}

// Whether an import is open is not looked at.
func TestP10_10_ImportOpen(t *testing.T) {
	d, c := made(t, of("c.a.import", "x"))
	wantStrokes(t, "Swap", d, 5, func() { wantSwap(t, c, actions(2, api.ID{}), api.OK) })
	wantTable(t, c, actions(2, api.ID{})...)
	if !c.Pending() {
		t.Error("Swap has ended the import")
	}
}

func TestP10_10_NoRoom(t *testing.T) {
	for _, what := range []api.Errno{api.ErrFull, api.ErrFiles} {
		for _, data := range []string{"\x09", tableOf(actions(2, api.ID{})...)} {
			d, c := full(t, what, of("c.a.table", data))
			before := d.Files()
			wantSwap(t, c, actions(9, api.ID{}), what)
			if !same(d.Files(), before) || !same(d.Safe(), before) {
				t.Errorf("refused, but %s", all(d))
			}
		}
	}
}
