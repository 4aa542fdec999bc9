package cache_test

import (
	"slices"
	"testing"

	"freight/api"
	"freight/reach"
)

func TestP10_3_Pending(t *testing.T) {
	for _, data := range []string{"", "x", times(5000, "j")} {
		d, c := made(t)
		if c.Pending() {
			t.Error("no file, but an import is open")
		}
		hand(t, d, "c.a.import", data)
		d.Look()
		if !c.Pending() || len(d.Reads()) != 0 {
			t.Errorf("%d bytes: Pending is %t, read was %v", len(data), c.Pending(), d.Reads())
		}
		away(t, d, "c.a.import")
		if c.Pending() {
			t.Error("the file is gone, but an import is open")
		}
	}
}

func TestP10_3_NoOtherFileIsAnImport(t *testing.T) {
	_, c := made(t, of("c.ab.import", "x"), of("c.a-.import", "x"), of("c.a.import.", "x"), of("c.a.imports", "x"), of("c.a.impor", "x"), of("import", "x"), of("c.a", "x"))
	if c.Pending() {
		t.Error("an import of another is open here")
	}
	d, c := made(t)
	hand(t, d, "+c.a.import", "x")
	if c.Pending() {
		t.Error("what a Put left is an import")
	}
}

func TestP10_3_PowerOff(t *testing.T) {
	d, c := off(t, of("c.a.import", "x"))
	if c.Pending() {
		t.Error("the power is off")
	}
	d.Crash()
	if !c.Pending() {
		t.Error("the power is on again")
	}
}

// All widths, and rows of all lengths.
func TestP10_4_Get(t *testing.T) {
	for width := 1; width <= 32; width++ {
		d := mustLoad(t, api.MaxRoom)
		c := mustOpen(t, d, "a", width)
		for _, data := range []string{"", "pallet", times(4095, "x"), times(4096, "y")} {
			id := idOf(width, data)
			wantNoGet(t, c, id, id, api.ErrNoBlob)
			hand(t, d, nameOf(id), data)
			wantGet(t, c, id, data)
		}
	}
}

func TestP10_4_NoBlob(t *testing.T) {
	d, c := made(t, blob("pallet"))
	pallet := id1("pallet")
	for _, id := range []api.ID{{}, {pallet[0] + 1}, {pallet[0], 1}, {0: pallet[0], 31: 255}, {31: 1}} {
		wantNothing(t, "Get", d, func() { wantNoGet(t, c, id, id, api.ErrNoBlob) })
	}
}

// An id whose bytes behind the width are no noughts is never there, though a
// file of its name lies there, with the bytes of the id before it is cut.
func TestP10_4_BehindTheWidth(t *testing.T) {
	data := "pallet"
	whole := idOf(32, data)
	for width := 1; width <= 32; width++ {
		d := mustLoad(t, 1000, of(nameOf(whole), data))
		c := mustOpen(t, d, "a", width)
		if width == 32 {
			wantGet(t, c, whole, data)
			continue
		}
		wantNoGet(t, c, whole, whole, api.ErrNoBlob)
		at := idOf(width, data)
		at[width] ^= 1
		hand(t, d, nameOf(at), data)
		wantNoGet(t, c, at, at, api.ErrNoBlob)
		wantNoGet(t, c, idOf(width, data), idOf(width, data), api.ErrNoBlob)
	}
}

func TestP10_4_Damage(t *testing.T) {
	one, two := clash()
	for _, data := range []string{"", "x", "crate 7 of 31", times(4096, "d"), times(4097, "d"), times(100000, "d")} {
		if id1(data) == id1("pallet") {
			t.Fatal("no damage")
		}
		d, c := made(t, damage("pallet", data))
		wantNothing(t, "Get of damage", d, func() { wantNoGet(t, c, id1("pallet"), id1("pallet"), api.ErrDamage) })
	}
	_, c := made(t, damage(one, two))
	wantGet(t, c, id1(one), two) // both have that id
	wide := mustOpen(t, mustLoad(t, 1000, of(nameOf(idOf(32, one)), two)), "a", 32)
	wantNoGet(t, wide, idOf(32, one), idOf(32, one), api.ErrDamage)
}

// More than MaxBlob bytes are damage, though they have that id.
func TestP10_4_TooLongIsDamage(t *testing.T) {
	for _, n := range []int{4097, 5000, 1 << 19} {
		data := times(n, "l")
		d, c := made(t, blob(data))
		wantNoGet(t, c, id1(data), id1(data), api.ErrDamage)
		wantBlobs(t, c, id1(data))
		hand(t, d, nameOf(id1(data)), times(4096, "l"))
	}
	_, c := made(t, blob(times(4096, "l")))
	wantGet(t, c, id1(times(4096, "l")), times(4096, "l"))
}

// A Cache is a source.
func TestP10_4_Source(t *testing.T) {
	leaf, flat := "pallet", treeOf(aFile(id1("pallet")))
	d, c := made(t, blob(leaf), blob(flat))
	var source reach.Source = c
	need, err := reach.Need(source, res(1, id1(flat), 0))
	want := []api.ID{id1(flat), id1(leaf)}
	slices.SortFunc(want, func(a, b api.ID) int { return int(a[0]) - int(b[0]) })
	if err != nil || !slices.Equal(need, want) {
		t.Errorf("Need: %s, %v, want %s", short(need...), err, short(want...))
	}
	hand(t, d, nameOf(id1(leaf)), "other bytes")
	if lacking, err := reach.Lacks(source, res(1, id1(flat), 0)); err != nil || !slices.Equal(lacking, []api.ID{id1(leaf)}) {
		t.Errorf("Lacks: %s, %v", short(lacking...), err)
	}
	darken(t, d)
	if _, err := reach.Lacks(source, res(1, id1(flat), 0)); api.Code(err) != api.ErrOff {
		t.Errorf("Lacks, the power off: %v", err)
	}
}

// Files that begin as that of a blob, and go on otherwise.
func nobodys() []api.FileBytes {
	long := times(62, "0")
	return []api.FileBytes{of("c.a.b.", "x"), of("c.a.b.b8", "x"), of("c.a.b.b8"+long+"0", "x"), of("c.a.b.b8"+long[1:], "x"), of("c.a.b.b"+long+".", "x"),
		of("c.a.b.g8"+long, "x"), of("c.a.b.-8"+long, "x"), of("c.a.b.b8"+long[2:]+"01", "x"), of("c.a.b.b801"+long[2:], "x"), of("c.a.b.+b"+long, "x"), of("c.a.b.c.a.b.b8"+long, "x"),
		of("c.a.b", "x"), of("c.a.bb8"+long, "x"), of("c.ab.b.b8"+long, "x"), of("c.a-.b.b8"+long, "x"), of("b8"+long, "x"), of("f.a", "x"), of("c.a.c.b8"+long, "x")}
}

func TestP10_5_Blobs(t *testing.T) {
	_, c := made(t)
	wantBlobs(t, c)
	_, c = made(t, nobodys()...)
	wantBlobs(t, c)
	d, c := made(t, append(nobodys(), blob("pallet"), blob("crate 7 of 31"), blob(""), damage("x", "damage"), damage("y", times(5000, "damage")))...)
	want := []api.ID{id1("pallet"), id1("crate 7 of 31"), id1(""), id1("x"), id1("y")}
	slices.SortFunc(want, func(a, b api.ID) int { return int(a[0]) - int(b[0]) })
	d.Look()
	wantBlobs(t, c, want...)
	if len(d.Reads()) != 0 {
		t.Errorf("Blobs has read %v", d.Reads())
	}
}

// A disk has no name with great letters: of such an id in hex there is none.
func TestP10_5_GreatLetters(t *testing.T) {
	d, c := made(t)
	if errno := d.Create("c.a.b.B8" + times(62, "0")); errno != api.ErrName {
		t.Errorf("Create: %d", errno)
	}
	wantBlobs(t, c)
}

// All 256 ids of the width 1, by their order as bytes; and wide ones.
func TestP10_5_Rising(t *testing.T) {
	var files []api.FileBytes
	var want []api.ID
	for i := range 256 {
		want = append(want, api.ID{byte(i)})
		files = append(files, of(nameOf(want[i]), "d"))
	}
	slices.Reverse(files)
	_, c := made(t, files...)
	wantBlobs(t, c, want...)
	want = []api.ID{{}, {31: 1}, {30: 1}, {30: 1, 31: 255}, {0: 9, 31: 9}, {0: 10}, {0: 0xa0}, {0: 255, 31: 254}, {0: 255, 31: 255}}
	files = nil
	for _, id := range want {
		files = append(files, of(nameOf(id), "d"))
	}
	slices.Reverse(files)
	wantBlobs(t, mustOpen(t, mustLoad(t, 1000, files...), "a", 32), want...)
	wantBlobs(t, mustOpen(t, mustLoad(t, 1000, files...), "a", 31), want[0], want[2], want[5], want[6])
	wantBlobs(t, mustOpen(t, mustLoad(t, 1000, files...), "a", 1), want[0], want[5], want[6])
}

func TestP10_6_Table(t *testing.T) {
	for _, results := range [][]api.Result{nil, {res(1, id1("x"), 0)}, actions(2, api.ID{9}), actions(32, api.ID{31: 1}), {{}}, {{Action: api.ID{31: 255}, Root: api.ID{31: 255}, Code: 255}}} {
		d, c := made(t, of("c.a.table", tableOf(results...)))
		wantNothing(t, "Table", d, func() { wantTable(t, c, results...) })
	}
	_, c := made(t, of("c.ab.table", tableOf(actions(3, api.ID{})...)))
	wantTable(t, c)
}

// noTables are bytes that are the form of no table.
func noTables() []string {
	one := tableOf(res(1, id1("x"), 7))
	two := tableOf(actions(2, id1("x"))...)
	turned := two[:1] + two[66:] + two[1:66]
	return []string{"", "\x09", "\x00\x00", "\x80\x00", one[:65], one + "\x00", "\x02" + one[1:], turned, "\x21" + times(33*65, "\x00"), times(100000, "t")}
}

func TestP10_6_NoTable(t *testing.T) {
	for _, data := range noTables() {
		d, c := made(t, of("c.a.table", data))
		wantNothing(t, "Table", d, func() { wantNoTable(t, c, api.ErrCache) })
		wantBlobs(t, c)
		wantPut(t, c, "pallet")
		wantGet(t, c, id1("pallet"), "pallet")
		darken(t, d)
		wantNoTable(t, c, api.ErrOff)
	}
}

// Each call looks at the disk anew.
func TestP10_6_NothingIsKept(t *testing.T) {
	d, c := made(t)
	wantTable(t, c)
	hand(t, d, "c.a.table", tableOf(res(1, api.ID{1}, 1)))
	wantTable(t, c, res(1, api.ID{1}, 1))
	hand(t, d, "c.a.table", "\x09")
	wantNoTable(t, c, api.ErrCache)
	hand(t, d, "c.a.table", tableOf(actions(5, api.ID{1})...))
	wantTable(t, c, actions(5, api.ID{1})...)
	away(t, d, "c.a.table")
	wantTable(t, c)
}

// As it was when All was called: behind a change, without its file, with the power off.
func TestP10_6_AllAsItWas(t *testing.T) {
	results := actions(4, id1("x"))
	d, c := made(t, of("c.a.table", tableOf(results...)))
	seq, err := c.All()
	if err != nil {
		t.Fatal(err)
	}
	wantStill := func(what string) {
		t.Helper()
		if got := slices.Collect(seq); !slices.Equal(got, results) {
			t.Errorf("%s: %s", what, told(got...))
		}
	}
	wantSwap(t, c, results[:1], api.OK)
	wantStill("swapped")
	wantTable(t, c, results[:1]...)
	away(t, d, "c.a.table")
	wantStill("its file gone")
	hand(t, d, "c.a.table", "\x09")
	wantStill("no table")
	darken(t, d)
	wantStill("the power off")
	for range seq {
		d.Crash()
		break
	}
	wantStill("left early")
}

// Left at each place, and begun again from the beginning.
func TestP10_6_AllLeftEarly(t *testing.T) {
	results := actions(32, id1("x"))
	_, c := made(t, of("c.a.table", tableOf(results...)))
	seq, _ := c.All()
	for stop := range len(results) {
		var got []api.Result
		seq(func(r api.Result) bool {
			got = append(got, r)
			return len(got) <= stop
		})
		if !slices.Equal(got, results[:stop+1]) {
			t.Errorf("told to stop behind %d: %s", stop+1, told(got...))
		}
	}
}

func TestP10_6_AllLoopsInLoops(t *testing.T) {
	results := actions(5, id1("x"))
	_, c := made(t, of("c.a.table", tableOf(results...)))
	seq, _ := c.All()
	var outer []api.Result
	for one := range seq {
		outer = append(outer, one)
		var inner []api.Result
		for other := range seq {
			inner = append(inner, other)
			if len(inner) == len(outer)+2 {
				break
			}
		}
		if want := results[:min(len(outer)+2, 5)]; !slices.Equal(inner, want) {
			t.Errorf("within: %s, want %s", told(inner...), told(want...))
		}
	}
	if !slices.Equal(outer, results) {
		t.Errorf("without: %s", told(outer...))
	}
}

// A table's file is read only where it is needed.
func TestLooking_TableIsReadWhereNeeded(t *testing.T) {
	d, c := made(t, blob("pallet"), of("c.a.table", "\x09"))
	d.Look()
	c.Get(id1("pallet"))
	c.Blobs()
	c.Pending()
	c.Put([]byte("crate"))
	c.Lay([]byte("crate 2"))
	c.Drop(id1("crate"))
	c.Set(res(1, id1("pallet"), 256))
	c.Swap(actions(33, id1("x")))
	for _, span := range d.Reads() {
		if span.Name == "c.a.table" {
			t.Errorf("read: %v", span)
		}
	}
}
