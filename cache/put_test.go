package cache_test

import (
	"fmt"
	"slices"
	"testing"

	"freight/api"
	"freight/cache"
	"freight/disk"
)

// Rows of all lengths, at all widths: a file of just these bytes, in five strokes.
func TestP10_7_Laid(t *testing.T) {
	for _, l := range layers() {
		for width := 1; width <= 32; width++ {
			d := mustLoad(t, api.MaxRoom)
			c := mustOpen(t, d, "a", width)
			for _, data := range []string{"pallet", "", times(4095, "z"), times(4096, "z")} {
				before := d.Files()
				wantStrokes(t, l.op, d, 5, func() { wantLaid(t, l, c, data) })
				wantGet(t, c, idOf(width, data), data)
				want := mustLoad(t, api.MaxRoom, append(before, of(nameOf(idOf(width, data)), data))...)
				if !same(d.Files(), want.Files()) || !same(d.Safe(), want.Files()) {
					t.Errorf("%s(%.20q): %s", l.op, data, all(d))
				}
				wantStrokes(t, l.op+" again", d, 0, func() { wantLaid(t, l, c, data) })
			}
		}
	}
}

// A draft that lies there since a crash is one stroke more.
func TestP10_7_DraftThere(t *testing.T) {
	for _, l := range layers() {
		d, c := made(t)
		hand(t, d, "+"+nameOf(id1("pallet")), "half of it")
		wantStrokes(t, l.op, d, 6, func() { wantLaid(t, l, c, "pallet") })
		if !same(d.Files(), []api.FileBytes{blob("pallet")}) {
			t.Errorf("%s: %s", l.op, all(d))
		}
	}
}

func TestP10_7_TooLong(t *testing.T) {
	for _, l := range layers() {
		d, c := made(t)
		wantNothing(t, l.op, d, func() {
			for _, n := range []int{4097, 4098, 8192, 100000} {
				wantNotLaid(t, l, c, times(n, "x"), api.ID{}, api.ErrLong)
			}
		})
		wantLaid(t, l, c, times(4096, "x"))
	}
}

// Each refusal stands ahead of those behind it.
func TestP10_7_OrderOfErrors(t *testing.T) {
	one, two := clash()
	long := times(4097, "x")
	for _, l := range layers() {
		dark, c := off(t, of("c.a.import", ""), blob(one))
		for range 2 {
			wantNotLaid(t, l, c, long, api.ID{}, api.ErrLong)
			wantNotLaid(t, l, c, two, api.ID{}, api.ErrOff)
			wantNotLaid(t, l, c, one, api.ID{}, api.ErrOff)
		}
		dark.Crash()
		wantNotLaid(t, l, c, long, api.ID{}, api.ErrLong)
		if l.op == "cache.put" {
			wantNotLaid(t, l, c, two, api.ID{}, api.ErrOpen)
			wantNotLaid(t, l, c, one, api.ID{}, api.ErrOpen)
		} else {
			wantNotLaid(t, l, c, two, id1(two), api.ErrCollision)
			wantLaid(t, l, c, one)
		}
	}
}

// The other bytes stay; which of both came first is all the same.
func TestP10_7_Clash(t *testing.T) {
	one, two := clash()
	for _, l := range layers() {
		for _, pair := range [][2]string{{one, two}, {two, one}} {
			d, c := made(t)
			wantLaid(t, l, c, pair[0])
			wantNothing(t, "a clash", d, func() { wantNotLaid(t, l, c, pair[1], id1(one), api.ErrCollision) })
			wantGet(t, c, id1(one), pair[0])
			wantDrop(t, c, id1(one), api.ID{}, api.OK)
			wantLaid(t, l, c, pair[1])
			wantGet(t, c, id1(one), pair[1])
		}
		wide := mustOpen(t, mustLoad(t, 1000), "a", 32)
		wantLaid(t, l, wide, one)
		wantLaid(t, l, wide, two)
	}
}

// Unlike by one byte, by a byte more, and by nothing but the length.
func TestP10_7_ClashNearby(t *testing.T) {
	first := map[api.ID]string{}
	for n := range 2000 {
		data := times(n, "r")
		if other, is := first[id1(data)]; is {
			_, c := made(t, blob(other))
			wantNoPut(t, c, data, id1(data), api.ErrCollision)
			wantGet(t, c, id1(data), other)
		}
		first[id1(data)] = data
	}
}

// A clash stands ahead of too many blobs; so do like bytes.
func TestP10_7_ClashAheadOfBlobs(t *testing.T) {
	one, two := clash()
	files := fullOf(t, 127, one)
	for _, l := range layers() {
		d, c := made(t, append(files, blob(one))...)
		wantNothing(t, l.op, d, func() {
			wantNotLaid(t, l, c, two, id1(two), api.ErrCollision)
			wantLaid(t, l, c, one)
		})
	}
}

// fullOf are n files of blobs of the cache a, damage, none of them data's.
func fullOf(t *testing.T, n int, data ...string) []api.FileBytes {
	t.Helper()
	files := slices.DeleteFunc(damages(n+len(data)), func(f api.FileBytes) bool {
		return slices.ContainsFunc(data, func(row string) bool { return f.Name == blob(row).Name })
	})
	return files[:n]
}

// Damage is replaced, whatever it was.
func TestP10_7_DamageIsReplaced(t *testing.T) {
	for _, l := range layers() {
		for _, bad := range []string{"", "x", "crate 7 of 31", times(4096, "d"), times(4097, "d"), times(100000, "d")} {
			d, c := made(t, damage("pallet", bad))
			wantStrokes(t, l.op, d, 5, func() { wantLaid(t, l, c, "pallet") })
			if !same(d.Files(), []api.FileBytes{blob("pallet")}) {
				t.Errorf("%s: %s", l.op, all(d))
			}
		}
		long := times(5000, "l")
		_, c := made(t, damage(long, long)) // it has the id, but is too long
		for i := 0; ; i++ {
			if row := fmt.Sprint("short ", i); id1(row) == id1(long) {
				wantLaid(t, l, c, row)
				wantGet(t, c, id1(long), row)
				break
			}
		}
	}
}

func TestP10_7_MaxBlobs(t *testing.T) {
	for _, l := range layers() {
		for n, want := range map[int]api.Errno{0: api.OK, 126: api.OK, 127: api.OK, 128: api.ErrBlobs, 129: api.ErrBlobs, 200: api.ErrBlobs} {
			d, c := made(t, fullOf(t, n, "pallet")...)
			if want == api.OK {
				wantLaid(t, l, c, "pallet")
				continue
			}
			wantNothing(t, l.op, d, func() { wantNotLaid(t, l, c, "pallet", api.ID{}, want) })
		}
	}
}

// The blob's own file among MaxBlobs of them, or more.
func TestP10_7_MaxBlobsWithItsOwn(t *testing.T) {
	for _, l := range layers() {
		for _, n := range []int{127, 128, 200} {
			_, c := made(t, append(fullOf(t, n, "pallet"), blob("pallet"))...)
			wantLaid(t, l, c, "pallet")
			_, c = made(t, append(fullOf(t, n, "pallet"), damage("pallet", "damage"))...)
			wantLaid(t, l, c, "pallet")
			wantGet(t, c, id1("pallet"), "pallet")
		}
	}
}

// What is nobody's, and another cache's, does not count.
func TestP10_7_MaxBlobsCountsFilesOfBlobs(t *testing.T) {
	files := fullOf(t, 127, "pallet", "crate")
	for i := range 50 {
		files = append(files, of(nameOf(api.ID{byte(i), 1}), "nobody's"), of("c.ab.b."+inHex(api.ID{byte(i)}), "another's"))
	}
	files = append(files, of("c.a.table", "\x00"), of("c.a.b.zz", ""))
	for _, l := range layers() {
		_, c := made(t, files...)
		wantLaid(t, l, c, "pallet")
		wantNotLaid(t, l, c, "crate", api.ID{}, api.ErrBlobs)
		wantDrop(t, c, id1("pallet"), api.ID{}, api.OK)
		wantLaid(t, l, c, "crate")
	}
}

// A whole cache: MaxBlobs of wide ids, none of them damage.
func TestP10_7_MaxBlobsLaid(t *testing.T) {
	for _, l := range layers() {
		c := mustOpen(t, mustLoad(t, api.MaxRoom), "a", 32)
		for i := range 128 {
			wantLaid(t, l, c, fmt.Sprint("blob ", i))
		}
		wantNotLaid(t, l, c, "one more", api.ID{}, api.ErrBlobs)
		for i := range 128 {
			wantLaid(t, l, c, fmt.Sprint("blob ", i))
			wantGet(t, c, idOf(32, fmt.Sprint("blob ", i)), fmt.Sprint("blob ", i))
		}
	}
}

// ErrBlobs stands ahead of what a Put says.
func TestP10_7_BlobsAheadOfRoom(t *testing.T) {
	files := append(fullOf(t, 128, "pallet"), many(128)...)
	room := 0
	for _, f := range files {
		room += len(f.Data)
	}
	for _, l := range layers() {
		d := mustLoad(t, room, files...)
		c := mustOpen(t, d, "a", 1)
		wantNothing(t, l.op, d, func() { wantNotLaid(t, l, c, "pallet", api.ID{}, api.ErrBlobs) })
	}
}

// An import open: Put is refused, like bytes or not; Lay is not.
func TestP10_7_ImportOpen(t *testing.T) {
	d, c := made(t, blob("pallet"), damage("crate", "damage"), of("c.a.import", ""))
	wantNothing(t, "an import is open", d, func() {
		for _, data := range []string{"pallet", "crate", "", "another"} {
			wantNoPut(t, c, data, api.ID{}, api.ErrOpen)
		}
	})
	lay := layers()[1]
	for _, data := range []string{"pallet", "crate", "", "another"} {
		wantLaid(t, lay, c, data)
		wantGet(t, c, id1(data), data)
	}
	if !c.Pending() {
		t.Error("Lay has ended the import")
	}
	away(t, d, "c.a.import")
	wantPut(t, c, "yet another")
}

// full is a disk on which there is no room for more bytes, or for more files.
func full(t *testing.T, what api.Errno, files ...api.FileBytes) (*disk.Disk, *cache.Cache) {
	t.Helper()
	if what == api.ErrFiles {
		files = append(slices.Clone(files), many(256-len(files))...)
	}
	used := 1
	for _, f := range files {
		used += len(f.Data)
	}
	if what == api.ErrFiles {
		used += 10000
	}
	d := mustLoad(t, used, files...)
	return d, mustOpen(t, d, "a", 1)
}

func TestP10_7_NoRoom(t *testing.T) {
	for _, l := range layers() {
		for _, what := range []api.Errno{api.ErrFull, api.ErrFiles} {
			d, c := full(t, what, blob("pallet"), damage("crate", "x"))
			before := d.Files()
			for _, data := range []string{"crate", "another"} {
				wantNotLaid(t, l, c, data, api.ID{}, what)
				if !same(d.Files(), before) || !same(d.Safe(), before) {
					t.Errorf("%s: refused, but %s", l.op, all(d))
				}
			}
			wantLaid(t, l, c, "pallet")
		}
	}
}
