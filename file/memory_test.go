package file_test

import (
	"bytes"
	"fmt"
	"sync"
	"testing"

	"freight/api"
	"freight/disk"
	"freight/file"
)

// spare is a copy of data with spare room that is full of one byte.
func spare(data string) []byte {
	whole := append([]byte(data), bytes.Repeat([]byte{0xa5}, 50)...)
	return whole[:len(data):len(whole)]
}

// fill writes over a list, and over its room.
func fill(list []byte) {
	whole := list[:cap(list)]
	for i := range whole {
		whole[i] = 0x5a
	}
}

func wantUntouched(t *testing.T, what string, list []byte, data string) {
	t.Helper()
	if string(list) != data || !bytes.Equal(list[:cap(list)][len(data):], bytes.Repeat([]byte{0xa5}, cap(list)-len(data))) {
		t.Errorf("%s: what was handed in is another", what)
	}
}

// grow does to a file what may write into its spare room, if there is any.
func grow(d *disk.Disk, name string) {
	d.Append(name, []byte("more"))
	d.WriteAt(name, 0, []byte("over"))
	d.Truncate(name, 1)
	d.Append(name, []byte("again and again"))
	d.Sync(name)
	d.SyncNames()
	d.Crash(0, 1, 1, 1)
	d.Append(name, []byte("?"))
}

// In each way, cut off anywhere or not: data is as it was, and may be written over.
func TestP6_9_PutDoesNotKeepNorChange(t *testing.T) {
	for _, w := range ways() {
		for off := range len(w.strokes) + 1 {
			d := mustLoad(t, w.room, w.files...)
			d.Plan(api.Plan{Off: off, From: w.plan.From, To: w.plan.To})
			other := d.Twin()
			data := spare(w.data)
			file.Put(d, "a", data)
			file.Put(other, "a", []byte(w.data))
			wantUntouched(t, w.what, data, w.data)
			fill(data)
			if all(d) != all(other) || rows(d) != rows(other) {
				t.Errorf("%s, off at %d, written over behind it: %s\nwant %s", w.what, off, all(d), all(other))
			}
			d.Crash(2, 9, 9, 9)
			data = spare(w.data)
			if err := file.Put(d, "a", data); err == nil {
				grow(d, "a")
			}
			wantUntouched(t, w.what+", and more", data, w.data)
		}
	}
}

// A name that is none leaves data alone too.
func TestP6_9_RefusedAhead(t *testing.T) {
	data := spare("crate")
	for _, d := range []*disk.Disk{nil, {}, off(t), mustLoad(t, 100)} {
		file.Put(d, "+a", data)
		file.Put(d, "", data[:0])
		wantUntouched(t, "Put", data, "crate")
	}
}

// One list put twice is two files; a part of it is a third.
func TestP6_9_OneListTwice(t *testing.T) {
	d := mustLoad(t, 100)
	data := spare("crate")
	if file.Put(d, "a", data) != nil || file.Put(d, "b", data) != nil || file.Put(d, "c", data[3:]) != nil {
		t.Fatal("refused")
	}
	do(t, d.WriteAt("a", 0, []byte("C")), d.Append("b", []byte("s")), d.Append("c", []byte("!")))
	if got := show(d.Files()); got != "a=Crate b=crates c=te!" {
		t.Error(got)
	}
	wantUntouched(t, "one list", data, "crate")
}

func TestP6_9_GetIsNew(t *testing.T) {
	for _, data := range []string{"", "c", "crate", times(500, 'x')} {
		d := mustLoad(t, 1000)
		wantPut(t, d, "a", data, api.OK)
		before, row := all(d), rows(d)
		one, _ := file.Get(d, "a")
		other, _ := file.Get(d, "a")
		fill(one)
		_ = append(one, "more and more"...)
		if string(other) != data {
			t.Errorf("another answer is another: %q", other)
		}
		if all(d) != before || rows(d) != row {
			t.Errorf("written over: %s\nwant %s", all(d), before)
		}
		wantGet(t, d, "a", data)
		grow(d, "a")
		file.Put(d, "a", []byte("yet another"))
		file.Drop(d, "a")
		if string(other) != data {
			t.Errorf("an answer is another behind other calls: %q", other)
		}
	}
}

// What Get tells may be put: it is handed in like any other list.
func TestP6_9_PutWhatGetTold(t *testing.T) {
	d := mustLoad(t, 100, of("a", "crate"))
	data, _ := file.Get(d, "a")
	wantPut(t, d, "b", string(data), api.OK)
	if err := file.Put(d, "a", data[:3]); err != nil {
		t.Fatal(err)
	}
	fill(data)
	wantGet(t, d, "a", "cra")
	wantGet(t, d, "b", "crate")
}

// W5: nil and empty are the same where they are handed in.
func TestW5_NilAndEmpty(t *testing.T) {
	for off := range 6 {
		d, e := mustLoad(t, 100, of("a", "old")), mustLoad(t, 100, of("a", "old"))
		d.Plan(api.Plan{Off: off})
		e.Plan(api.Plan{Off: off})
		if api.Code(file.Put(d, "a", nil)) != api.Code(file.Put(e, "a", []byte{})) || all(d) != all(e) || rows(d) != rows(e) {
			t.Errorf("off at %d: %s, %s", off, all(d), all(e))
		}
	}
}

// W2: nothing is kept beside the disk, and no order of a map is seen.
func TestW2_TheSameEachTime(t *testing.T) {
	var told string
	for i := range 5 {
		d := mustLoad(t, 1000, many(40)...)
		var now string
		for off := range 12 {
			w := d.Twin()
			w.Plan(api.Plan{Off: off})
			now += fmt.Sprint(file.Clean(w, "m00"), all(w), file.Put(w, "m01", []byte("x")), all(w), file.Drop(w, "m039"), all(w))
		}
		if i == 0 {
			told = now
		} else if now != told {
			t.Fatal("once more: other answers")
		}
	}
}

// Disks are each on its own: each may be used where the others are not.
func TestW2_DisksAtTheSameTime(t *testing.T) {
	told := make([]string, 8)
	var together sync.WaitGroup
	for i := range told {
		d := mustLoad(t, 30, several()...)
		together.Go(func() {
			r := noise()
			for range 200 {
				told[i] += anyCall(r.IntN).onFile(d)
			}
			told[i] += all(d)
		})
	}
	together.Wait()
	for i := range told {
		if told[i] != told[0] {
			t.Errorf("one of many: other answers")
		}
	}
}
