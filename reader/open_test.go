package reader_test

import (
	"bytes"
	"fmt"
	"math"
	"strings"
	"testing"

	"freight/api"
	"freight/disk"
	"freight/reader"
)

func noWidths() []int {
	return []int{math.MinInt, -32, -1, 0, 33, 34, 255, 256 + 32, math.MaxInt}
}

func noNames() []string {
	return []string{"", "F", "f/b", "f b", "f.b\x00", "f.\xff", "f.ä", "\n", strings.Repeat("a", 113), strings.Repeat("z", 70000)}
}

// noDisks are those whose power is off.
func noDisks(t *testing.T) map[string]*disk.Disk {
	off := mustLoad(t, of("f.b", stocked(t, 8, 16)))
	powerOff(off)
	return map[string]*disk.Disk{"nil": nil, "zero": {}, "off": off}
}

func TestP13_1_NoWidth(t *testing.T) {
	d := mustLoad(t, of("f.b", stocked(t, 32, 16)))
	for _, width := range noWidths() {
		for _, name := range append(noNames(), "f.b", "f.z") {
			what := fmt.Sprintf("width %d, %.10q", width, name)
			wantNoOpen(t, what, d, name, width, api.ErrArg)
			for kind, none := range noDisks(t) {
				wantNoOpen(t, what+", "+kind, none, name, width, api.ErrArg)
			}
		}
	}
	wantReads(t, "no width", d, nil)
}

func TestP13_1_EveryWidth(t *testing.T) {
	_, blobs := stock(2)
	for width := 1; width <= 32; width++ {
		d := mustLoad(t, of("f.b", mustMake(t, width, nil, blobs, 16)))
		for other := 1; other <= 32; other++ {
			if other != width {
				wantNoOpen(t, fmt.Sprintf("%d as %d", width, other), d, "f.b", other, api.ErrBundle)
			}
		}
		r, w := wantOpenByWords(t, fmt.Sprint("width ", width), d, "f.b", width)
		wantAllByWords(t, fmt.Sprint("width ", width), r, w)
	}
}

func TestP13_1_NoDisk(t *testing.T) {
	for kind, d := range noDisks(t) {
		for _, width := range []int{1, 8, 32} {
			for _, name := range append(noNames(), "f.b", "f.z") {
				wantNoOpen(t, fmt.Sprintf("%s, width %d, %.10q", kind, width, name), d, name, width, api.ErrOff)
			}
		}
	}
}

// A power that is on again is as one that was never off.
func TestP13_1_OnAgain(t *testing.T) {
	d := noDisks(t)["off"]
	d.Crash()
	r, w := wantOpenByWords(t, "on again", d, "f.b", 8)
	wantAllByWords(t, "on again", r, w)
}

func TestP13_1_NoName(t *testing.T) {
	d := mustLoad(t, of("f.b", stocked(t, 8, 16)))
	for _, name := range noNames() {
		wantNoOpen(t, fmt.Sprintf("%.10q", name), d, name, 8, api.ErrName)
	}
	wantReads(t, "no name", d, nil)
}

func TestP13_1_NoFile(t *testing.T) {
	d := mustLoad(t, of("f.b", stocked(t, 8, 16)), of("f.was", stocked(t, 8, 16)))
	d.Remove("f.was")
	for _, name := range []string{"f.z", "f.", "f.bb", "f", "+f.b", "f.was", strings.Repeat("a", 112)} {
		wantNoOpen(t, name, d, name, 8, api.ErrNone)
	}
	wantReads(t, "no file", d, nil)
}

// Any name of the disk will do, whoever gave it.
func TestP13_1_EveryName(t *testing.T) {
	data := stocked(t, 8, 16)
	for _, name := range []string{"f.b", "a", "+f.b", "c.a.table", "_-.+", strings.Repeat("z", 112)} {
		d := mustLoad(t, of(name, data), of("other", times(9, 9)))
		r, w := wantOpenByWords(t, name, d, name, 8)
		wantAllByWords(t, name, r, w)
	}
}

func TestP13_1_Lengths(t *testing.T) {
	first := mustMake(t, 8, nil, nil, 16)
	if len(first) != 43 {
		t.Fatalf("%d bytes", len(first))
	}
	good := stocked(t, 8, 16)
	for _, x := range []struct {
		what  string
		data  []byte
		want  api.Errno
		reads int
	}{
		{"no bytes", nil, api.ErrBundle, 0},
		{"1 byte", times(1, 'f'), api.ErrBundle, 0},
		{"42 bytes", times(42, 0), api.ErrBundle, 0},
		{"the first 42", first[:42], api.ErrBundle, 0},
		{"the last 42", first[1:], api.ErrBundle, 0},
		{"43 bytes", times(43, 0), api.ErrBundle, 1},
		{"one byte more behind", append(bytes.Clone(good), 'f'), api.ErrBundle, 1},
		{"one byte more ahead", append([]byte{'f'}, good...), api.ErrBundle, 1},
		{"one byte less behind", good[:len(good)-1], api.ErrBundle, 1},
		{"one byte less ahead", good[1:], api.ErrBundle, 1},
		{"as many as there may be", times(api.MaxFile, 1), api.ErrBundle, 1},
		{"one more", times(api.MaxFile+1, 1), api.ErrBundleLong, 0},
		{"one more, a bundle at its end", append(times(api.MaxFile+1-43, 1), first...), api.ErrBundleLong, 0},
		{"a full disk", times(api.MaxRoom, 1), api.ErrBundleLong, 0},
	} {
		d := mustLoad(t, of("f.x", x.data))
		wantNoOpen(t, x.what, d, "f.x", 8, x.want)
		if reads := d.Reads(); len(reads) != x.reads {
			t.Errorf("%s: %v was read, want %d", x.what, reads, x.reads)
		}
		wantOpenByWords(t, x.what, d, "f.x", 8)
	}
	d := mustLoad(t, of("f.x", first))
	if face := mustOpen(t, d, "f.x", 8).Face(); face.Width != 8 || face.Size != 16 || len(face.Results)+len(face.Blobs)+len(face.Blocks) != 0 {
		t.Errorf("the bundle of nothing: %v", face)
	}
}

// refusedByLook are bundles that Look refuses, each with the part at which.
func refusedByLook(t testing.TB) []struct {
	what  string
	data  []byte
	want  api.Errno
	reads int
} {
	good := stocked(t, 8, 16)
	n := numbersOf(good)
	at := func(k int) []byte {
		data := bytes.Clone(good)
		data[k] ^= 1
		return data
	}
	change := func(change func(data []byte, n [7]int)) []byte { return changed(good, change) }
	many := mustMake(t, 8, nil, inOrder(256, 0, 20, 20, 20, 20, 20, 20, 20, 20, 20, 20, 20, 20, 20, 20, 20, 20, 20), 16)
	long := changed(many, func(data []byte, n [7]int) {
		for k := 1; k < 18; k++ {
			put2(entry(data, n, k)[8:], 4096)
		}
	})
	return []struct {
		what  string
		data  []byte
		want  api.Errno
		reads int
	}{
		{"a letter of TRAILER", at(len(good) - 1), api.ErrBundle, 1},
		{"the length of the whole", at(len(good) - 4), api.ErrBundle, 1},
		{"a letter of HEAD", at(0), api.ErrBundle, 2},
		{"the width of HEAD", at(3), api.ErrBundle, 2},
		{"the size of HEAD", change(func(data []byte, n [7]int) { put2(data[4:], 15) }), api.ErrBundle, 2},
		{"a byte of ENTRIES", at(n[0] + 40), api.ErrSum, 3},
		{"the sum of ENTRIES", at(len(good) - 31 + 11), api.ErrSum, 3},
		{"33 results", change(func(data []byte, n [7]int) { put2(data[n[0]:], 33) }), api.ErrMany, 3},
		{"65 blobs", change(func(data []byte, n [7]int) { put2(data[n[0]+2+2*65:], 65) }), api.ErrMany, 3},
		{"ids that do not rise", withID(good, 0, api.ID{0: 255, 7: 255}), api.ErrBundle, 3},
		{"a blob that is too long", change(func(data []byte, n [7]int) { put2(entry(data, n, 1)[8:], 4097) }), api.ErrBundle, 3},
		{"a row that is too long", long, api.ErrBundleLong, 3},
		{"a byte of INDEX", at(n[3] + 9), api.ErrSum, 4},
		{"the sum of INDEX", at(len(good) - 31 + 23), api.ErrSum, 4},
		{"one block more", change(func(data []byte, n [7]int) { data[n[3]+1]++ }), api.ErrBundle, 4},
		{"a block of no bytes", change(func(data []byte, n [7]int) { put2(data[n[3]+2:], 0) }), api.ErrBundle, 4},
	}
}

func TestP13_1_ErrorsOfLook(t *testing.T) {
	for _, x := range refusedByLook(t) {
		for _, name := range []string{"f.b", "+x", strings.Repeat("b", 112)} {
			d := mustLoad(t, of(name, x.data), of("a", stocked(t, 8, 16)))
			wantNoOpen(t, x.what, d, name, 8, x.want)
			if reads := d.Reads(); len(reads) != x.reads {
				t.Errorf("%s: %v was read, want %d", x.what, reads, x.reads)
			}
			wantOpenByWords(t, x.what, d, name, 8)
		}
	}
}

// A byte of BLOCKS is not seen by Open, every other one is.
func TestP13_1_EveryByteTurned(t *testing.T) {
	for _, size := range []int{16, 100} {
		good := stocked(t, 8, size)
		n := numbersOf(good)
		for at := range good {
			for _, bits := range []byte{1, 0x80, 0xff} {
				data := bytes.Clone(good)
				data[at] ^= bits
				r, _ := wantOpenByWords(t, fmt.Sprintf("byte %d, %x", at, bits), mustLoad(t, of("f.b", data)), "f.b", 8)
				if isBlocks := at >= 6 && at < n[0]; isBlocks && r == nil {
					t.Errorf("byte %d: within BLOCKS, and not opened", at)
				}
			}
		}
	}
}

func TestP13_1_EveryLength(t *testing.T) {
	good := stocked(t, 8, 16)
	for n := range len(good) {
		wantNoOpen(t, fmt.Sprint("the first ", n), mustLoad(t, of("f.b", good[:n])), "f.b", 8, api.ErrBundle)
		wantNoOpen(t, fmt.Sprint("the last ", n), mustLoad(t, of("f.b", good[len(good)-n:])), "f.b", 8, api.ErrBundle)
	}
}

// What is not safe as yet is shown, and so it is read.
func TestP13_1_WhatIsShown(t *testing.T) {
	d := mustLoad(t, of("f.b", times(50, 7)))
	lay(d, "f.b", stocked(t, 8, 16))
	lay(d, "f.c", stocked(t, 8, 64))
	for _, name := range []string{"f.b", "f.c"} {
		r, w := wantOpenByWords(t, name, d, name, 8)
		wantAllByWords(t, name, r, w)
	}
}

func TestP13_1_TheSameDisk(t *testing.T) {
	s := shelveBlobs(t, 32, 16, inOrder(256, 40, 30, 9)...)
	twin := s.disk.Twin()
	before := untouched(twin)
	twin.Look()
	id := s.words.face.Blobs[1].ID
	s.wantGet(t, "as it was", id, inOrder(256, 40, 30, 9)[1], api.OK, api.ID{})
	s.turn(s.words.face.Blocks[3].At)
	s.wantGet(t, "turned by hand", id, nil, api.ErrBlock, api.ID{})
	s.turn(s.words.face.Blocks[3].At)
	s.wantGet(t, "turned back", id, inOrder(256, 40, 30, 9)[1], api.OK, api.ID{})
	powerOff(s.disk)
	s.wantGet(t, "its power is off", id, nil, api.ErrOff, api.ID{})
	s.disk.Crash(0)
	s.wantGet(t, "on again", id, inOrder(256, 40, 30, 9)[1], api.OK, api.ID{})
	wantReads(t, "a twin", twin, nil)
	if untouched(twin) != before {
		t.Errorf("a twin is another")
	}
	powerOff(twin)
	s.wantGet(t, "a twin's power is off", id, inOrder(256, 40, 30, 9)[1], api.OK, api.ID{})
}

// Another bundle in the file's place is read by what the first one said.
func TestP13_1_KeepsNoBlobAndNoBlock(t *testing.T) {
	blobs := inOrder(256, 40, 30, 9)
	s := shelveBlobs(t, 32, 16, blobs...)
	s.wantLike(t, "as it was")
	lay(s.disk, "f.b", mustMake(t, 32, nil, inOrder(256, 41, 31, 10), 16))
	s.wantLike(t, "another bundle")
	lay(s.disk, "f.b", times(1000, 'x'))
	s.wantLike(t, "no bundle")
	for _, id := range idsOf(32, blobs) {
		s.wantGet(t, "no bundle", id, nil, api.ErrBlock, api.ID{})
	}
	lay(s.disk, "f.b", s.data)
	for k, id := range idsOf(32, blobs) {
		s.wantGet(t, "the first one again", id, blobs[k], api.OK, api.ID{})
	}
}

// Two Readers, of one file or of two, know nothing of each other.
func TestP13_1_TwoReaders(t *testing.T) {
	one, other := stocked(t, 8, 16), mustMake(t, 8, nil, inOrder(2, 100, 3, 0), 32)
	d := mustLoad(t, of("f.b", one))
	a, aw := wantOpenByWords(t, "one", d, "f.b", 8)
	lay(d, "f.b", other)
	b, bw := wantOpenByWords(t, "other", d, "f.b", 8)
	lay(d, "f.c", one)
	c, cw := wantOpenByWords(t, "a second file", d, "f.c", 8)
	for _, x := range []struct {
		r *reader.Reader
		w *words
	}{{a, aw}, {b, bw}, {c, cw}, {b, bw}, {a, aw}} {
		wantAllByWords(t, x.w.name, x.r, x.w)
		if x.r.Name() != x.w.name || !likeFace(x.r.Face(), x.w.face) {
			t.Errorf("%q: %v", x.r.Name(), x.r.Face())
		}
	}
}
