package disk_test

import (
	"bytes"
	"fmt"
	"slices"
	"sync"
	"testing"

	"freight/api"
	"freight/disk"
)

// spare is a copy of data with spare room that is full of one byte.
func spare(data string) []byte {
	whole := append([]byte(data), bytes.Repeat([]byte{0xa5}, 50)...)
	return whole[:len(data):len(whole)]
}

// fill writes over a list, and over its room.
func fill(list []byte) {
	whole := list[:cap(list)]
	for i := range whole {
		whole[i] = 0x5a
	}
}

func wantUntouched(t *testing.T, what string, list []byte, data string) {
	t.Helper()
	if string(list) != data || !bytes.Equal(list[:cap(list)][len(data):], bytes.Repeat([]byte{0xa5}, cap(list)-len(data))) {
		t.Errorf("%s: what was handed in is another", what)
	}
}

// grow does to a file what may write into its spare room, if there is any.
func grow(d face, name string) {
	d.Append(name, []byte("more"))
	d.WriteAt(name, 0, []byte("over"))
	d.Truncate(name, 1)
	d.Append(name, []byte("again and again"))
	d.Sync(name)
	d.SyncNames()
	d.Append(name, []byte("!"))
	d.Crash(0, 1, 1, 1)
	d.Append(name, []byte("?"))
}

func TestP5_13_HandedToLoad(t *testing.T) {
	for _, data := range []string{"", "c", "crate", times(500, 'x')} {
		files := append(make([]api.FileBytes, 0, 10), api.FileBytes{Name: "b", Data: spare(data)}, api.FileBytes{Name: "a", Data: spare("12" + data)})
		for _, room := range []int{0, 1, 5000} {
			d, errno := disk.Load(room, files)
			if errno == api.OK {
				grow(d, "a")
				grow(d, "b")
				fill(d.Files()[0].Data)
				fill(d.Safe()[1].Data)
			}
			wantUntouched(t, "Load", files[0].Data, data)
			wantUntouched(t, "Load", files[1].Data, "12"+data)
			if files[0].Name != "b" || files[1].Name != "a" || files[:3][2].Name != "" || files[:3][2].Data != nil {
				t.Errorf("Load: the list is another: %v", files[:3])
			}
		}
		d := mustLoad(t, 5000, files...)
		fill(files[0].Data)
		fill(files[1].Data)
		files[0], files[1] = api.FileBytes{}, file("z", "z")
		want := "a=12" + data + " b=" + data
		wantFiles(t, "written over behind Load", d, want)
		wantSafe(t, "written over behind Load", d, want)
		wantLeft(t, d, nil, want)
	}
}

// One list handed in twice is two files.
func TestP5_13_OneListTwice(t *testing.T) {
	data := spare("crate")
	d := mustLoad(t, 100, api.FileBytes{Name: "a", Data: data}, api.FileBytes{Name: "b", Data: data[:3]}, api.FileBytes{Name: "c", Data: data[3:]})
	do(t, d, writeAt("a", 0, "C"), appendTo("b", "ne"), writeAt("c", 0, "T"))
	wantFiles(t, "one list", d, "a=Crate b=crane c=Te")
	wantSafe(t, "one list", d, "a=crate b=cra c=te")
	wantUntouched(t, "one list", data, "crate")
}

func TestP5_13_HandedToWrites(t *testing.T) {
	for _, data := range []string{"", "x", "12345", times(300, 'y')} {
		for what, write := range map[string]func(d *disk.Disk, data []byte) api.Errno{
			"Append":         func(d *disk.Disk, data []byte) api.Errno { return d.Append("a", data) },
			"Append to none": func(d *disk.Disk, data []byte) api.Errno { return d.Append("e", data) },
			"WriteAt":        func(d *disk.Disk, data []byte) api.Errno { return d.WriteAt("a", 2, data) },
			"WriteAt 0":      func(d *disk.Disk, data []byte) api.Errno { return d.WriteAt("a", 0, data) },
			"refused":        func(d *disk.Disk, data []byte) api.Errno { return d.WriteAt("a", 9, data) },
			"none":           func(d *disk.Disk, data []byte) api.Errno { return d.Append("z", data) },
			"full": func(d *disk.Disk, data []byte) api.Errno {
				d.Plan(api.Plan{From: 1, To: 1})
				return d.Append("a", data)
			},
			"off": func(d *disk.Disk, data []byte) api.Errno { d.Plan(api.Plan{Off: 1}); return d.Append("a", data) },
		} {
			// One of the two is never written over: it tells what must be.
			d, w := mustLoad(t, 1000, file("a", "crate"), file("e", "")), mustLoad(t, 1000, file("a", "crate"), file("e", ""))
			given := spare(data)
			if write(d, given) != write(w, []byte(data)) {
				t.Errorf("%s: another answer", what)
			}
			wantUntouched(t, what, given, data)
			fill(given)
			for pick := range 6 {
				x, y := d.Twin(), w.Twin()
				x.Crash(0, pick, pick)
				y.Crash(0, pick, pick)
				if all(x) != all(y) || all(d) != all(w) {
					t.Errorf("%s of %d bytes, written over behind it: %s, want %s", what, len(data), all(x), all(y))
				}
			}
			given = spare(data)
			d = mustLoad(t, 1000, file("a", "crate"), file("e", ""))
			write(d, given)
			grow(d, "a")
			grow(d, "e")
			wantUntouched(t, what+", and more", given, data)
		}
	}
}

func TestP5_13_HandedToCrash(t *testing.T) {
	picks := append(make([]int, 0, 10), 1, -5, 99)
	copied := slices.Clone(picks[:cap(picks)])
	d := chapters(t)
	d.Crash(picks...)
	d.Crash(picks[:1]...)
	if !slices.Equal(picks[:cap(picks)], copied) {
		t.Errorf("the picks are others: %v", picks[:cap(picks)])
	}
	e := chapters(t)
	e.Crash(picks[:1]...)
	wantFiles(t, "the picks behind the end count for nothing", e, "a=crate b=")
}

// filled has files of many sizes, safe ones and others, and reads.
func filled(t *testing.T) *disk.Disk {
	t.Helper()
	d := mustLoad(t, 5000, file("a", "crate"), file("b", ""), file("c", times(70, 'c')))
	do(t, d, appendTo("a", "12"), truncate("c", 10), create("d"), appendTo("d", "xyz"), syncFile("d"), appendTo("d", "w"), create("e"), read("a", 1, 2), read("d", 0, 3))
	return d
}

// What is answered may be written over, its room too, and grow: neither the disk nor another answer knows of it.
func TestP5_13_AnswersAreNew(t *testing.T) {
	d := filled(t)
	before := all(d)
	left := func() string { return wholeRow(d) }
	rows := left()
	for what, spoil := range map[string]func(){
		"Files": func() { spoilFiles(d.Files()) },
		"Safe":  func() { spoilFiles(d.Safe()) },
		"List":  func() { spoilList(d.List(""), "zz") },
		"Reads": func() { spoilList(d.Reads(), api.Span{Name: "zz", At: 9, N: 9}) },
	} {
		other, safe, names, reads := d.Files(), d.Safe(), d.List(""), d.Reads()
		told := fmt.Sprint(show(other), show(safe), names, reads)
		spoil()
		if all(d) != before || left() != rows {
			t.Errorf("%s written over: %s, want %s", what, all(d), before)
		}
		if fmt.Sprint(show(other), show(safe), names, reads) != told {
			t.Errorf("%s written over: another answer is another", what)
		}
	}
	for _, f := range d.Files() {
		for at := range len(f.Data) + 1 {
			for n := range len(f.Data) - at + 1 {
				w := d.Twin()
				data, _ := w.Read(f.Name, at, n)
				again, _ := w.Read(f.Name, at, n)
				fill(data)
				_ = append(data, 1, 2, 3)
				if !bytes.Equal(again, f.Data[at:at+n]) || show(w.Files()) != show(d.Files()) || show(w.Safe()) != show(d.Safe()) {
					t.Errorf("Read(%q, %d, %d) written over: %s", f.Name, at, n, all(w))
				}
			}
		}
	}
}

func spoilFiles(files []api.FileBytes) {
	for i := range files {
		fill(files[i].Data)
		_ = append(files[i].Data, "more"...)
	}
	spoilList(files, api.FileBytes{Name: "zz", Data: []byte("zz")})
}

func spoilList[T any](list []T, with T) {
	whole := list[:cap(list)]
	for i := range whole {
		whole[i] = with
	}
	_ = append(list, with, with, with)
}

// No two lists of one answer share any.
func TestP5_13_ListsOfOneAnswerAreApart(t *testing.T) {
	for _, tell := range []func(d *disk.Disk) []api.FileBytes{(*disk.Disk).Files, (*disk.Disk).Safe} {
		d := filled(t)
		want := tell(d)
		for i := range want {
			files := tell(d)
			fill(files[i].Data)
			files[i].Data = append(files[i].Data[:0], times(200, '!')...)
			for j := range files {
				if j != i && !bytes.Equal(files[j].Data, want[j].Data) {
					t.Errorf("the bytes of %s are also those of %s", files[i].Name, files[j].Name)
				}
			}
		}
	}
}

// What was answered stays as it was, whatever is done to the disk.
func TestP5_13_AnswersStay(t *testing.T) {
	d := filled(t)
	files, safe, names, reads := d.Files(), d.Safe(), d.List(""), d.Reads()
	data, _ := d.Read("c", 2, 8)
	told := fmt.Sprint(show(files), show(safe), names, reads, data)
	for _, name := range []string{"a", "c", "d"} {
		do(t, d, writeAt(name, 0, "OVER"), appendTo(name, "behind"), truncate(name, 2), syncFile(name), read(name, 0, 1))
	}
	do(t, d, rename("a", "b"), remove("c"), syncNames(), look(), read("b", 0, 0))
	d.Crash()
	do(t, d, writeAt("b", 0, "XX"), create("new"))
	if got := fmt.Sprint(show(files), show(safe), names, reads, data); got != told {
		t.Errorf("an answer is another: %s, want %s", got, told)
	}
}

func TestP5_13_TwoDisksInTurns(t *testing.T) {
	r := noise()
	for range 100 {
		one, other := anyCalls(r.IntN, 30), anyCalls(r.IntN, 30)
		d, e := mustNew(t, 20), mustNew(t, 15)
		w, v := wordsOf(20), wordsOf(15)
		for i := range one {
			if !wantSame(t, d, w, one[i], one[:i]) || !wantSame(t, e, v, other[i], other[:i]) {
				t.FailNow()
			}
		}
		if all(d) != all(w) {
			t.Fatalf("the other one changed it: %s, want %s", all(d), all(w))
		}
	}
}

// Disks, twins among them, are each on its own: each may be used where the others are not.
func TestP5_13_DisksAtTheSameTime(t *testing.T) {
	first := filled(t)
	disks := make([]*disk.Disk, 8)
	for i := range disks {
		disks[i] = first.Twin()
	}
	told := make([]string, len(disks))
	var together sync.WaitGroup
	for i, d := range disks {
		together.Go(func() {
			r := noise()
			for _, c := range anyCalls(r.IntN, 300) {
				errno, text := c.on(d)
				told[i] += fmt.Sprint(errno, text)
			}
			told[i] += all(d)
		})
	}
	together.Wait()
	for i := range told {
		if told[i] != told[0] {
			t.Errorf("one of many: other answers")
		}
	}
	if all(first) != all(filled(t)) {
		t.Errorf("the first one: %s", all(first))
	}
}

// W2: no order of a map is seen, and nothing is kept beside the disk.
func TestW2_TheSameEachTime(t *testing.T) {
	r := noise()
	for range 50 {
		calls := anyCalls(r.IntN, 60)
		var want string
		for i := range 4 {
			d := mustLoad(t, 1000, many(40)...)
			var told string
			for _, c := range calls {
				errno, text := c.on(d)
				told += fmt.Sprint(errno, text)
			}
			told += all(d)
			if i == 0 {
				want = told
			} else if told != want {
				t.Fatalf("once more: other answers")
			}
		}
	}
}

// W5: nil and empty are the same where they are handed in.
func TestW5_NilAndEmpty(t *testing.T) {
	d, e := mustLoad(t, 10, []api.FileBytes{{Name: "a"}}...), mustLoad(t, 10, []api.FileBytes{{Name: "a", Data: []byte{}}}...)
	for i, x := range []struct{ one, other api.Errno }{
		{d.Append("a", nil), e.Append("a", []byte{})},
		{d.WriteAt("a", 0, nil), e.WriteAt("a", 0, []byte{})},
		{d.WriteAt("a", 1, nil), e.WriteAt("a", 1, []byte{})},
	} {
		if x.one != x.other {
			t.Errorf("%d: %d, %d", i, x.one, x.other)
		}
	}
	if all(d) != all(e) {
		t.Errorf("%s, %s", all(d), all(e))
	}
	d.Crash()
	e.Crash([]int{}...)
	if all(d) != all(e) {
		t.Errorf("%s, %s", all(d), all(e))
	}
}
