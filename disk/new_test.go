package disk_test

import (
	"fmt"
	"math"
	"slices"
	"testing"

	"freight/api"
	"freight/disk"
)

func TestP5_1_NewByItsRoom(t *testing.T) {
	for _, room := range []int{0, -1, math.MinInt, api.MaxRoom + 1, 2 * api.MaxRoom, math.MaxInt} {
		if d, errno := disk.New(room); errno != api.ErrArg || d != nil {
			t.Errorf("New(%d): %d", room, errno)
		}
		if d, errno := disk.Load(room, nil); errno != api.ErrArg || d != nil {
			t.Errorf("Load(%d): %d", room, errno)
		}
	}
	for _, room := range []int{1, 2, 40, api.MaxRoom - 1, api.MaxRoom} {
		for _, d := range []*disk.Disk{mustNew(t, room), mustLoad(t, room)} {
			if d.Off() || d.Strokes() != 0 || d.Used() != 0 || d.Room() != room || len(d.Files()) != 0 || len(d.Safe()) != 0 || len(d.List("")) != 0 || len(d.Reads()) != 0 {
				t.Errorf("room %d: %s", room, all(d))
			}
			do(t, d, create("a"), appendTo("a", times(room, 'x')))
			wantAt(t, d, appendTo("a", "y"), api.ErrFull)
		}
	}
}

// many are so many files of one byte each.
func many(n int) []api.FileBytes {
	var files []api.FileBytes
	for i := range n {
		files = append(files, file(fmt.Sprintf("f%03d", i), string([]byte{byte(i)})))
	}
	return files
}

func TestP5_1_LoadHoldsJustTheseFiles(t *testing.T) {
	d := mustLoad(t, 9, file("b", "x"), file("a", "yz"), file("+0", ""), file("a.b", "123456"))
	const want = "+0= a=yz a.b=123456 b=x"
	wantFiles(t, "Load", d, want)
	wantSafe(t, "Load", d, want)
	if d.Off() || d.Strokes() != 0 || d.Used() != 9 || d.Room() != 9 || len(d.Reads()) != 0 {
		t.Errorf("Load: %s", all(d))
	}
	for _, picks := range [][]int{nil, {1}, {9, 9, 9, 9, 9, 9}, {-1, -1, -1, -1, -1}} {
		wantLeft(t, d, picks, want)
	}
	wantAt(t, d, appendTo("b", "y"), api.ErrFull)
	do(t, d, appendTo("b", ""), writeAt("a.b", 0, "654321"), truncate("a", 1), appendTo("b", "!"))
	wantFiles(t, "behind Load", d, "+0= a=y a.b=654321 b=x!")
	wantSafe(t, "behind Load", d, want)
}

func TestP5_1_LoadOfAsManyFilesAsThereMayBe(t *testing.T) {
	d := mustLoad(t, api.MaxFiles, many(api.MaxFiles)...)
	if d.Used() != api.MaxFiles || len(d.Files()) != api.MaxFiles || len(d.Safe()) != api.MaxFiles {
		t.Errorf("%d files: %d", api.MaxFiles, len(d.Files()))
	}
	wantAt(t, d, create("g"), api.ErrFiles)
	wantLeft(t, d, nil, show(many(api.MaxFiles)))
}

func TestP5_1_LoadOfAsManyBytesAsTheRoom(t *testing.T) {
	half := times(api.MaxRoom/2, 'x')
	d := mustLoad(t, api.MaxRoom, file("a", half), file("b", half))
	if d.Used() != api.MaxRoom {
		t.Errorf("used: %d", d.Used())
	}
	mustLoad(t, 1, file("a", "x"), file("b", ""))
	mustLoad(t, 1, file("a", ""))
}

// Each error, and each one ahead of the next one, however the files lie.
func TestP5_1_LoadRefused(t *testing.T) {
	tooMany := many(api.MaxFiles + 1)
	noName, twice, full := file("A", ""), []api.FileBytes{file("a", ""), file("a", "")}, file("z", times(300, 'x'))
	row := func(parts ...[]api.FileBytes) []api.FileBytes { return slices.Concat(parts...) }
	one := func(f api.FileBytes) []api.FileBytes { return []api.FileBytes{f} }
	for _, x := range []struct {
		what  string
		room  int
		files []api.FileBytes
		want  api.Errno
	}{
		{"no room, too many", 0, tooMany, api.ErrArg},
		{"no room, no name", api.MaxRoom + 1, one(noName), api.ErrArg},
		{"no room, twice", -1, twice, api.ErrArg},
		{"no room, full", 0, one(full), api.ErrArg},
		{"too many", 299, tooMany, api.ErrFiles},
		{"too many, no names", 299, make([]api.FileBytes, api.MaxFiles+1), api.ErrFiles},
		{"too many, twice, full", 299, row(tooMany, twice, one(full)), api.ErrFiles},
		{"no name", 299, one(noName), api.ErrName},
		{"no name, last", 299, row(many(api.MaxFiles-1), one(noName)), api.ErrName},
		{"no name behind twice", 299, row(twice, one(noName)), api.ErrName},
		{"no name ahead of twice", 299, row(one(noName), twice), api.ErrName},
		{"no name behind full", 299, row(one(full), one(noName)), api.ErrName},
		{"no name twice", 299, row(one(noName), one(noName)), api.ErrName},
		{"twice", 299, twice, api.ErrThere},
		{"twice, far apart, unlike", 299, row(many(100), one(file("f000", "other"))), api.ErrThere},
		{"twice behind full", 299, row(one(full), twice), api.ErrThere},
		{"full twice", 299, row(one(full), one(full)), api.ErrThere},
		{"full", 299, one(full), api.ErrFull},
		{"full by one, of many", api.MaxFiles - 1, many(api.MaxFiles), api.ErrFull},
		{"full by one", 2, []api.FileBytes{file("a", "xy"), file("b", "z")}, api.ErrFull},
	} {
		if d, errno := disk.Load(x.room, x.files); errno != x.want || d != nil {
			t.Errorf("%s: %d, want %d", x.what, errno, x.want)
		}
	}
}

// eachText asks of many texts whether they are names.
func eachText(ask func(text string, is bool)) {
	for b := range 256 {
		is := b >= 'a' && b <= 'z' || b >= '0' && b <= '9' || b == '.' || b == '-' || b == '_' || b == '+'
		one := string([]byte{byte(b)})
		for _, text := range []string{one, "n" + one, one + "n", "nn" + one + "nn", times(api.MaxName-1, 'n') + one} {
			ask(text, is)
		}
		ask(times(api.MaxName, 'n')+one, false)
	}
	ask("", false)
	ask(times(api.MaxName, '+'), true)
	ask(times(api.MaxName+1, '+'), false)
	ask(times(100000, 'a'), false)
	ask("ä", false)
	ask("a\xff", false)
	ask("\x00", false)
}

func TestP5_1_NamesOfLoad(t *testing.T) {
	eachText(func(text string, is bool) {
		d, errno := disk.Load(9, []api.FileBytes{file(text, "x")})
		if is && (errno != api.OK || show(d.Files()) != text+"=x") || !is && (errno != api.ErrName || d != nil) {
			t.Errorf("Load of %q: %d", text, errno)
		}
	})
}

// noDisks are those without a disk, each made anew.
func noDisks() map[string]*disk.Disk {
	var none *disk.Disk
	return map[string]*disk.Disk{"nil": none, "zero": {}, "twin of nil": none.Twin(), "twin of zero": (&disk.Disk{}).Twin(), "twin of a twin": none.Twin().Twin()}
}

func TestP5_2_EachCall(t *testing.T) {
	for what, d := range noDisks() {
		want := all(d)
		if want != `off true, 0 strokes, 0 of 0, files ; safe ; list []; reads []` {
			t.Fatalf("%s: %s", what, want)
		}
		for _, name := range []string{"a", "", "A", "+"} {
			for _, c := range []call{create(name), writeAt(name, 0, "x"), writeAt(name, -1, ""), appendTo(name, "x"), appendTo(name, ""), truncate(name, 0), truncate(name, -1), rename(name, "b"), rename("b", name), rename(name, name), remove(name), syncFile(name), syncNames(), read(name, 0, 0), read(name, -1, 1), size(name)} {
				wantAhead(t, d, c, api.ErrOff)
			}
			if len(d.List(name)) != 0 {
				t.Errorf("%s: List(%q)", what, name)
			}
		}
		if data, errno := d.Read("a", 0, 0); errno != api.ErrOff || len(data) != 0 {
			t.Errorf("%s: Read", what)
		}
		if n, errno := d.Size("a"); errno != api.ErrOff || n != 0 {
			t.Errorf("%s: Size", what)
		}
	}
}

func TestP5_2_OffForEver(t *testing.T) {
	for what, d := range noDisks() {
		before := all(d)
		for _, c := range []call{crash(), crash(0), crash(1, 2, 3), plan(0, 0, 0), plan(1, 1, 1), plan(5, 0, 0), look(), crash(-1)} {
			c.on(d)
			if all(d) != before {
				t.Fatalf("%s, behind %s: %s", what, c.text, all(d))
			}
			wantAhead(t, d, create("a"), api.ErrOff)
			wantAhead(t, d, syncNames(), api.ErrOff)
		}
	}
}

func TestP5_2_TwinIsZero(t *testing.T) {
	for what, d := range noDisks() {
		w := d.Twin()
		if w == nil || w == d {
			t.Fatalf("%s: its twin is %p of %p", what, w, d)
		}
		w.Crash()
		if !w.Off() || w.Room() != 0 {
			t.Errorf("%s: its twin: %s", what, all(w))
		}
	}
}
