package cache_test

import (
	"fmt"
	"iter"
	"math"
	"strings"
	"testing"

	"freight/api"
	"freight/cache"
	"freight/disk"
)

func wantNotOpened(t *testing.T, d *disk.Disk, name string, width int, want api.Errno) {
	t.Helper()
	c, err := cache.Open(d, name, width)
	wantFault(t, fmt.Sprintf("Open(%.40q, %d)", name, width), err, "cache.open", name, api.ID{}, want)
	if c != nil {
		t.Errorf("Open(%.40q, %d): refused, but there is a cache", name, width)
	}
}

const titles = "abcdefghijklmnopqrstuvwxyz0123456789-"

func TestP10_1_Names(t *testing.T) {
	d := mustLoad(t, 100)
	for n := range 35 {
		name := times(n, "n")
		if n >= 1 && n <= 32 {
			mustOpen(t, d, name, 1)
		} else {
			wantNotOpened(t, d, name, 1, api.ErrName)
		}
	}
	wantNotOpened(t, d, times(100000, "n"), 1, api.ErrName)
	for _, name := range []string{"a", "0", "-", "--", "9z", "table", "import", "b"} {
		if c := mustOpen(t, d, name, 1); c.Name() != name {
			t.Errorf("Open(%q): its name is %q", name, c.Name())
		}
	}
}

func TestP10_1_BytesOfNames(t *testing.T) {
	d := mustLoad(t, 100)
	for b := range 256 {
		one := string([]byte{byte(b)})
		for _, name := range []string{one, one + "a", "a" + one, "a" + one + "a", times(31, "a") + one} {
			if strings.Contains(titles, one) {
				mustOpen(t, d, name, 32)
			} else {
				wantNotOpened(t, d, name, 32, api.ErrName)
			}
		}
	}
	for _, name := range []string{"a.b", "a b", "A", "+a", "a_b", "ä", "a\n", "\xff\xfe"} {
		wantNotOpened(t, d, name, 1, api.ErrName)
	}
}

func TestP10_1_Widths(t *testing.T) {
	d := mustLoad(t, 100)
	for width := 1; width <= 32; width++ {
		if c := mustOpen(t, d, "a", width); c.Width() != width {
			t.Errorf("Open(%d): its width is %d", width, c.Width())
		}
	}
	for _, width := range []int{0, 33, -1, 34, 64, 257, math.MaxInt, math.MinInt} {
		wantNotOpened(t, d, "a", width, api.ErrArg)
	}
}

// Each refusal stands ahead of those behind it.
func TestP10_1_OrderOfErrors(t *testing.T) {
	dark, _ := off(t, of("+c.a.table", "x"))
	for _, d := range []*disk.Disk{nil, {}, dark} {
		wantNotOpened(t, d, "", 0, api.ErrName)
		wantNotOpened(t, d, "a.", 1, api.ErrName)
		wantNotOpened(t, d, "a", 0, api.ErrArg)
		wantNotOpened(t, d, "a", 33, api.ErrArg)
		wantNotOpened(t, d, "a", 1, api.ErrOff)
		wantNotOpened(t, d, times(32, "z"), 32, api.ErrOff)
	}
	d := mustLoad(t, 100, of("+c.a.table", "x"))
	wantNothing(t, "refused", d, func() {
		wantNotOpened(t, d, "A", 33, api.ErrName)
		wantNotOpened(t, d, "a", 33, api.ErrArg)
	})
}

// What a Put left goes, whatever its name is behind the dot; nothing else does.
func TestP10_1_DraftsGo(t *testing.T) {
	drafts := []api.FileBytes{of("+c.a.", ""), of("+c.a.b."+times(64, "0"), "1"), of("+c.a.b.zz", "22"), of("+c.a.import", ""), of("+c.a.table", "x"), of("+c.a.z+", "y")}
	others := []api.FileBytes{of("+", ""), of("++c.a.table", "z"), of("+c.a", "u"), of("+c.a-.table", "v"), of("+c.ab.table", "x"), of("+c.b.table", "w"), of("+f.a", "t"),
		of("c.a.", "q"), of("c.a.import", "s"), of("c.a.table", "\x00"), blob("pallet")}
	d := mustLoad(t, 1000, append(drafts, others...)...)
	wantStrokes(t, "Open", d, len(drafts)+1, func() { mustOpen(t, d, "a", 1) })
	if want := mustLoad(t, 1000, others...).Files(); !same(d.Files(), want) || !same(d.Safe(), want) {
		t.Errorf("Open leaves %s", all(d))
	}
	wantStrokes(t, "Open once more", d, 0, func() { mustOpen(t, d, "a", 1) })
	wantStrokes(t, "Open of another", d, 2, func() { mustOpen(t, d, "ab", 1) })
}

// Nothing is made, and nothing is read, whatever the disk has.
func TestP10_1_MakesAndReadsNothing(t *testing.T) {
	for _, files := range [][]api.FileBytes{nil, {blob("pallet"), of("c.a.table", "\x09"), of("c.a.import", "x")}, {of("+c.a.table", "x"), blob("pallet")}} {
		d := mustLoad(t, 1000, files...)
		d.Look()
		mustOpen(t, d, "a", 1)
		if reads := d.Reads(); len(reads) != 0 {
			t.Errorf("%s: Open has read %v", show(files), reads)
		}
	}
	d := mustLoad(t, 1000)
	wantNothing(t, "Open", d, func() {
		c := mustOpen(t, d, "a", 1)
		wantBlobs(t, c)
		wantTable(t, c)
	})
	full := mustLoad(t, 1, many(256)...)
	wantNothing(t, "Open on a full disk", full, func() { mustOpen(t, full, "a", 1) })
}

// The power goes off at each stroke of an Open.
func TestP10_1_CutOff(t *testing.T) {
	d := mustLoad(t, 1000, of("+c.a.b.1", "1"), of("+c.a.table", "22"), of("+c.ab.table", "3"), blob("pallet"))
	for at := 1; at <= 3; at++ {
		w := d.Twin()
		w.Plan(api.Plan{Off: at})
		wantNotOpened(t, w, "a", 1, api.ErrOff)
		if w.Strokes() != at {
			t.Errorf("off at %d: %d strokes", at, w.Strokes())
		}
		wantNotOpened(t, w, "a", 1, api.ErrOff)
		for _, picks := range crashes() {
			v := w.Twin()
			v.Crash(picks...)
			mustOpen(t, v, "a", 1)
			if want := mustLoad(t, 1000, of("+c.ab.table", "3"), blob("pallet")); !same(v.Files(), want.Files()) {
				t.Errorf("off at %d, Crash(%v): %s", at, picks, all(v))
			}
		}
	}
}

// It keeps the same disk: what is done to one is done to the other.
func TestP10_1_KeepsTheDisk(t *testing.T) {
	d := mustLoad(t, 1000)
	c := mustOpen(t, d, "box-7", 9)
	if c.Disk() != d || c.Name() != "box-7" || c.Width() != 9 {
		t.Errorf("the same disk %t, %q, %d", c.Disk() == d, c.Name(), c.Width())
	}
	id := idOf(9, "pallet")
	hand(t, d, "c.box-7.b."+inHex(id), "pallet")
	wantGet(t, c, id, "pallet")
	darken(t, d)
	wantNoGet(t, c, id, api.ID{}, api.ErrOff)
	if c.Disk() != d || c.Name() != "box-7" || c.Width() != 9 {
		t.Errorf("the power off: the same disk %t, %q, %d", c.Disk() == d, c.Name(), c.Width())
	}
	d.Crash()
	wantGet(t, c, id, "pallet")
}

// none are a nil and a zero Cache.
func none() []*cache.Cache { return []*cache.Cache{nil, {}} }

func TestP10_2_TellsNothing(t *testing.T) {
	for _, c := range none() {
		if c.Disk() != nil || c.Name() != "" || c.Width() != 0 || c.Pending() {
			t.Errorf("%v, %q, %d, %t", c.Disk(), c.Name(), c.Width(), c.Pending())
		}
	}
}

// wantDark asks every call of a cache for ErrOff, behind the errors of its arguments.
func wantDark(t *testing.T, c *cache.Cache, g goods) {
	t.Helper()
	if c.Pending() {
		t.Error("Pending: true")
	}
	for _, id := range append(g.ids, api.ID{255, 255}) {
		wantNoGet(t, c, id, api.ID{}, api.ErrOff)
		wantDrop(t, c, id, api.ID{}, api.ErrOff)
		for _, code := range []int{0, 255} {
			wantSet(t, c, res(1, id, code), api.ID{}, api.ErrOff)
		}
		for _, code := range []int{-1, 256, math.MaxInt, math.MinInt} {
			wantSet(t, c, res(1, id, code), api.ID{}, api.ErrArg)
		}
	}
	ids, err := c.Blobs()
	wantFault(t, "Blobs", err, "cache.blobs", c.Name(), api.ID{}, api.ErrOff)
	if ids != nil {
		t.Errorf("Blobs: refused, but it tells %s", short(ids...))
	}
	wantNoTable(t, c, api.ErrOff)
	for _, l := range layers() {
		for _, n := range []int{0, 1, 4096} {
			wantNotLaid(t, l, c, times(n, "x"), api.ID{}, api.ErrOff)
		}
		for _, n := range []int{4097, 100000} {
			wantNotLaid(t, l, c, times(n, "x"), api.ID{}, api.ErrLong)
		}
	}
	for i, results := range g.tables {
		want := api.ErrOff
		if i >= 5 {
			want = api.ErrArg
		}
		wantSwap(t, c, results, want)
	}
}

func TestP10_2_NilAndZeroCaches(t *testing.T) {
	for _, c := range none() {
		for range 2 {
			wantDark(t, c, theGoods())
		}
	}
}

// A Cache that is zero but was copied out of one that is not is as that one.
func TestP10_2_CopiedCaches(t *testing.T) {
	_, c := made(t, blob("pallet"))
	copied := *c
	wantGet(t, &copied, id1("pallet"), "pallet")
	copied = cache.Cache{}
	wantDark(t, &copied, theGoods())
	wantGet(t, c, id1("pallet"), "pallet")
}

// The power off: the same of every call, and nothing has changed.
func TestW8_PowerOff(t *testing.T) {
	d, c := off(t, blob("pallet"), blob(treeOf()), of("c.a.import", "x"), of("c.a.table", "\x09"))
	wantNothing(t, "the power off", d, func() { wantDark(t, c, theGoods()) })
	d.Crash()
	if !c.Pending() {
		t.Error("no import is open")
	}
	wantGet(t, c, id1("pallet"), "pallet")
}

// What the faces give, by their types.
func TestFaces(t *testing.T) {
	var _ func(*disk.Disk, string, int) (*cache.Cache, error) = cache.Open
	var _ interface {
		Disk() *disk.Disk
		Name() string
		Width() int
		Pending() bool
		Get(api.ID) ([]byte, error)
		Blobs() ([]api.ID, error)
		Table() ([]api.Result, error)
		All() (iter.Seq[api.Result], error)
		Put([]byte) (api.ID, error)
		Set(api.Result) error
		Drop(api.ID) error
		Lay([]byte) (api.ID, error)
		Swap([]api.Result) error
	} = (*cache.Cache)(nil)
}
