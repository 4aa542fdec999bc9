package file_test

import (
	"fmt"
	"slices"
	"strings"
	"testing"

	"freight/api"
	"freight/disk"
	"freight/file"
)

// choice chooses one of so many.
type choice func(n int) int

// call is a call of the package, or of the disk beneath it.
type call struct {
	text    string
	onFile  func(d *disk.Disk) string
	onWords func(w *words) string
}

func answer(errno api.Errno, data string) string { return fmt.Sprintf("%d %q", errno, data) }

func put(name, data string) call {
	return call{fmt.Sprintf("Put(%q, %q)", name, data),
		func(d *disk.Disk) string { return answer(api.Code(file.Put(d, name, []byte(data))), "") },
		func(w *words) string { return answer(w.put(name, data), "") }}
}

func get(name string) call {
	return call{fmt.Sprintf("Get(%q)", name),
		func(d *disk.Disk) string {
			data, err := file.Get(d, name)
			return answer(api.Code(err), string(data))
		},
		func(w *words) string {
			data, errno := w.get(name)
			return answer(errno, data)
		}}
}

func drop(name string) call {
	return call{fmt.Sprintf("Drop(%q)", name),
		func(d *disk.Disk) string { return answer(api.Code(file.Drop(d, name)), "") },
		func(w *words) string { return answer(w.drop(name), "") }}
}

func clean(prefix string) call {
	return call{fmt.Sprintf("Clean(%q)", prefix),
		func(d *disk.Disk) string { return answer(api.Code(file.Clean(d, prefix)), "") },
		func(w *words) string { return answer(w.clean(prefix), "") }}
}

// beneath is a call of the disk itself.
func beneath(text string, on func(d *disk.Disk) api.Errno) call {
	return call{text,
		func(d *disk.Disk) string { return answer(on(d), "") },
		func(w *words) string { return answer(on(w.disk), "") }}
}

// anyCall is a call on few names and few bytes.
func anyCall(choose choice) call {
	name := []string{"a", "b", "ab", "a", "b", "+a", "+b", "A", ""}[choose(9)]
	data := "0123456789"[:choose(9)]
	switch choose(16) {
	case 0, 1, 2, 3, 4:
		return put(name, data)
	case 5:
		return get(name)
	case 6:
		return drop(name)
	case 7:
		return clean(name)
	case 8:
		return clean("+")
	case 9:
		plan := api.Plan{Off: choose(14), From: choose(6), To: choose(8)}
		return beneath(fmt.Sprintf("Plan(%v)", plan), func(d *disk.Disk) api.Errno {
			d.Plan(plan)
			return api.OK
		})
	case 10, 11:
		picks := []int{choose(9), choose(9), choose(9), choose(9)}
		return beneath(fmt.Sprintf("Crash(%v)", picks), func(d *disk.Disk) api.Errno {
			d.Crash(picks...)
			return api.OK
		})
	case 12:
		return beneath("Create "+name, func(d *disk.Disk) api.Errno { return d.Create(name) })
	case 13:
		return beneath("Append "+name+" "+data, func(d *disk.Disk) api.Errno { return d.Append(name, []byte(data)) })
	case 14:
		return beneath("Rename +a "+name, func(d *disk.Disk) api.Errno { return d.Rename("+a", name) })
	}
	return beneath("Sync "+name, func(d *disk.Disk) api.Errno { return d.Sync(name) })
}

// wantAsWords asks a disk by the package and by the words the same, call by call.
func wantAsWords(t *testing.T, d *disk.Disk, calls []call) {
	t.Helper()
	w := &words{disk: d.Twin()}
	var before []string
	for _, c := range calls {
		before = append(before, c.text)
		strokes := d.Strokes()
		w.strokes = nil
		got, want := c.onFile(d), c.onWords(w)
		if got != want || all(d) != all(w.disk) {
			t.Fatalf("%s: %s, want %s\ngot:  %s\nwant: %s", strings.Join(before, ", "), got, want, all(d), all(w.disk))
		}
		if w.strokes != nil && d.Strokes() != strokes+len(w.strokes) {
			t.Fatalf("%s: %d strokes, want %q", strings.Join(before, ", "), d.Strokes()-strokes, w.strokes)
		}
	}
	if rows(d) != rows(w.disk) {
		t.Fatalf("%s: crashes leave other files", strings.Join(before, ", "))
	}
}

func TestFollows_LongRowsOfAnyCalls(t *testing.T) {
	r := noise()
	for i := range 1500 {
		var calls []call
		for range 1 + i%40 {
			calls = append(calls, anyCall(r.IntN))
		}
		wantAsWords(t, mustLoad(t, 6+i%40), calls)
	}
}

func FuzzAsTheWordsSay(f *testing.F) {
	f.Add([]byte{30, 0, 5, 0, 0, 7, 1, 9, 0, 9, 5, 0, 0, 0, 3, 2, 10, 1, 2, 3, 4, 0, 0, 5})
	f.Add([]byte{9, 5, 0, 12, 5, 3, 13, 0, 4, 0, 0, 0, 8, 1, 6, 1, 1, 7})
	f.Fuzz(func(t *testing.T, data []byte) {
		choose := func(n int) int {
			if len(data) == 0 {
				return 0
			}
			b := int(data[0])
			data = data[1:]
			return b % n
		}
		room := 1 + choose(60)
		var calls []call
		for len(data) > 0 && len(calls) < 60 {
			calls = append(calls, anyCall(choose))
		}
		wantAsWords(t, mustLoad(t, room), calls)
	})
}

// starts are disks on which everything is safe, with and without a, with and without +a, and others beside them.
func starts(t *testing.T, room int) []*disk.Disk {
	t.Helper()
	var disks []*disk.Disk
	for _, a := range []string{"none", "", "old", "the new one"} {
		for _, plus := range []string{"none", "", "left", "the new"} {
			for _, more := range [][]api.FileBytes{nil, {of("+b", "1"), of("b", "2"), of("aa", ""), of("+aa", "3")}} {
				files := slices.Clone(more)
				if a != "none" {
					files = append(files, of("a", a))
				}
				if plus != "none" {
					files = append(files, of("+a", plus))
				}
				disks = append(disks, mustLoad(t, room, files...))
			}
		}
	}
	return disks
}

// plans are those without and with room at each stroke of a call, the power going off nowhere.
func plans() []api.Plan {
	return []api.Plan{{}, {From: 1, To: 1}, {From: 2, To: 2}, {From: 3, To: 3}, {From: 2, To: 9}, {From: 1, To: 9}}
}

// bytesOf is the file's bytes, told apart from none.
func bytesOf(files []api.FileBytes, name string) string {
	for _, f := range files {
		if f.Name == name {
			return "=" + string(f.Data)
		}
	}
	return "none"
}

// beside are the files but these.
func beside(files []api.FileBytes, names ...string) string {
	return show(slices.DeleteFunc(slices.Clone(files), func(f api.FileBytes) bool { return slices.Contains(names, f.Name) }))
}

func TestP6_5_BehindAPut(t *testing.T) {
	for _, room := range []int{26, 1000} {
		met := map[api.Errno]int{}
		for _, d := range starts(t, room) {
			for _, plan := range plans() {
				for _, data := range []string{"", "x", "the new one"} {
					w := d.Twin()
					w.Plan(plan)
					before := w.Files()
					code := api.Code(file.Put(w, "a", []byte(data)))
					met[code]++
					what := fmt.Sprintf("%s: Put(%q), %v: %d", show(before), data, plan, code)
					wantBehindPut(t, what, w, before, data, code)
					if show(w.Safe()) != show(w.Files()) {
						t.Errorf("%s: not safe: %s", what, all(w))
					}
				}
			}
		}
		if met[api.OK] < 50 || met[api.ErrFull] < 50 {
			t.Errorf("room %d: %v", room, met)
		}
	}
}

func wantBehindPut(t *testing.T, what string, d *disk.Disk, before []api.FileBytes, data string, code api.Errno) {
	t.Helper()
	want := bytesOf(before, "a")
	switch code {
	case api.OK:
		want = "=" + data
		wantGet(t, d, "a", data)
		wantNoGet(t, d, "+a", api.ErrNone)
	case api.ErrFull:
	default:
		t.Errorf("%s: neither OK nor ErrFull", what)
	}
	if bytesOf(d.Files(), "a") != want || bytesOf(d.Files(), "+a") != "none" {
		t.Errorf("%s: %s", what, all(d))
	}
	if beside(d.Files(), "a", "+a") != beside(before, "a", "+a") {
		t.Errorf("%s: others are others: %s", what, all(d))
	}
}

// Where not all was safe: the file that was put is, and of the others all that SyncNames makes safe.
func TestP6_5_OthersThatAreNotSafe(t *testing.T) {
	mixed := func() *disk.Disk {
		d := mustLoad(t, 100, of("a", "old"), of("b", "xyz"), of("c", "123"))
		do(t, d.Append("b", []byte("!")), d.Remove("c"), d.Create("e"), d.Append("e", []byte("new")), d.Create("f"), d.Append("f", []byte("safe")), d.Sync("f"), d.Truncate("f", 2), d.Append("a", []byte("er")))
		return d
	}
	shown := "b=xyz! e=new f=sa"
	d := mixed()
	wantDisk(t, "ahead", d, 9, "a=older "+shown, "a=old b=xyz c=123")
	wantPut(t, d, "a", "data", api.OK)
	wantDisk(t, "Put", d, 14, "a=data "+shown, "a=data b=xyz e= f=safe")
	d = mixed()
	wantPut(t, d, "g", times(100, 'g'), api.ErrFull)
	wantDisk(t, "refused at Append", d, 13, "a=older "+shown, "a=old b=xyz e= f=safe")
	d = mixed()
	d.Plan(api.Plan{From: 1, To: 1})
	wantPut(t, d, "g", "", api.ErrFull)
	wantDisk(t, "refused at Create", d, 10, "a=older "+shown, "a=old b=xyz c=123")
	d = mixed()
	do(t, d.Create("+g"))
	d.Plan(api.Plan{From: 2, To: 2})
	wantPut(t, d, "g", "", api.ErrFull)
	wantDisk(t, "refused at Create, a +g", d, 13, "a=older "+shown, "a=old b=xyz e= f=safe")
	d = mixed()
	wantDrop(t, d, "f", api.OK)
	wantDisk(t, "Drop", d, 11, "a=older b=xyz! e=new", "a=old b=xyz e=")
	d = mixed()
	wantClean(t, d, "e", api.OK)
	wantDisk(t, "Clean", d, 11, "a=older b=xyz! f=sa", "a=old b=xyz f=safe")
}

// cutOff goes through all crashes behind a call at each of whose strokes the power goes off.
func cutOff(d *disk.Disk, plan api.Plan, call func(w *disk.Disk) error, at func(what string, w *disk.Disk)) {
	for off := 1; ; off++ {
		w := d.Twin()
		plan.Off = off
		w.Plan(plan)
		if api.Code(call(w)) != api.ErrOff {
			return
		}
		for names := range 6 {
			for units := range 14 {
				v := w.Twin()
				v.Crash(names, units, units, units, units, units, units)
				at(fmt.Sprintf("off at %d, Crash(%d, %d ..)", off, names, units), v)
			}
		}
	}
}

func TestP6_6_APutThatIsCutOff(t *testing.T) {
	met := map[string]int{}
	for _, d := range starts(t, 60) {
		before := d.Files()
		for _, data := range []string{"", "x", "the new one"} {
			for _, plan := range plans() {
				cutOff(d, plan, func(w *disk.Disk) error { return file.Put(w, "a", []byte(data)) }, func(what string, w *disk.Disk) {
					what = fmt.Sprintf("%s: Put(%q), %s", show(before), data, what)
					now := w.Files()
					a, plus := bytesOf(now, "a"), bytesOf(now, "+a")
					if a != bytesOf(before, "a") && a != "="+data {
						t.Errorf("%s: a is torn: %s", what, show(now))
					}
					if plus != "none" && plus != bytesOf(before, "+a") && !strings.HasPrefix("="+data, plus) {
						t.Errorf("%s: +a has other bytes: %s", what, show(now))
					}
					if beside(now, "a", "+a") != beside(before, "a", "+a") {
						t.Errorf("%s: others are others: %s", what, show(now))
					}
					if len(data) > 5 {
						met[fmt.Sprintf("a new %t, +a there %t, whole %t", a == "="+data, plus != "none", plus == "="+data)]++
					}
					wantPut(t, w, "a", data+"!", api.OK)
					wantBehindPut(t, what+", put once more", w, now, data+"!", api.OK)
				})
				if t.Failed() {
					return
				}
			}
		}
	}
	// A torn draft, a whole one, none; the file with the old bytes, and with the new ones.
	for _, want := range []string{"a new false, +a there true, whole false", "a new false, +a there true, whole true", "a new false, +a there false, whole false", "a new true, +a there false, whole false"} {
		if met[want] == 0 {
			t.Errorf("no crash left: %s; but %v", want, met)
		}
	}
}

func TestP6_6_ADropThatIsCutOff(t *testing.T) {
	for _, d := range starts(t, 60) {
		before := d.Files()
		for _, f := range before {
			met := map[string]int{}
			cutOff(d, api.Plan{}, func(w *disk.Disk) error { return file.Drop(w, f.Name) }, func(what string, w *disk.Disk) {
				is := bytesOf(w.Files(), f.Name)
				met[is]++
				if is != "none" && is != "="+string(f.Data) || beside(w.Files(), f.Name) != beside(before, f.Name) {
					t.Errorf("%s: Drop(%q), %s: %s", show(before), f.Name, what, show(w.Files()))
				}
				wantPut(t, w, "a", "again", api.OK)
				wantGet(t, w, "a", "again")
			})
			if len(met) != 2 {
				t.Errorf("%s: Drop(%q): %v", show(before), f.Name, met)
			}
		}
	}
}

func TestP6_6_ACleanThatIsCutOff(t *testing.T) {
	for _, d := range starts(t, 60) {
		before := d.Files()
		for _, prefix := range []string{"", "+", "a", "+a"} {
			cutOff(d, api.Plan{}, func(w *disk.Disk) error { return file.Clean(w, prefix) }, func(what string, w *disk.Disk) {
				for _, f := range before {
					is := bytesOf(w.Files(), f.Name)
					if is != "="+string(f.Data) && (is != "none" || !strings.HasPrefix(f.Name, prefix)) {
						t.Errorf("%s: Clean(%q), %s: %s", show(before), prefix, what, show(w.Files()))
					}
				}
				if len(w.Files()) > len(before) {
					t.Errorf("%s: Clean(%q), %s: %s", show(before), prefix, what, show(w.Files()))
				}
				wantPut(t, w, "a", "again", api.OK)
				wantGet(t, w, "a", "again")
			})
		}
	}
}

func TestP6_7_OKIsSafe(t *testing.T) {
	for _, d := range starts(t, 60) {
		calls := map[string]func(w *disk.Disk) error{
			"Put":            func(w *disk.Disk) error { return file.Put(w, "a", []byte("data")) },
			"Put no bytes":   func(w *disk.Disk) error { return file.Put(w, "a", nil) },
			"Put a new one":  func(w *disk.Disk) error { return file.Put(w, "c", []byte("c")) },
			"Put twice":      func(w *disk.Disk) error { file.Put(w, "b", []byte("1")); return file.Put(w, "b", []byte("23")) },
			"Clean":          func(w *disk.Disk) error { return file.Clean(w, "+") },
			"Clean all":      func(w *disk.Disk) error { return file.Clean(w, "") },
			"Clean none":     func(w *disk.Disk) error { return file.Clean(w, "zz") },
			"Put and Drop":   func(w *disk.Disk) error { file.Put(w, "c", []byte("1")); return file.Drop(w, "c") },
			"refused, Clean": func(w *disk.Disk) error { file.Put(w, "c", []byte(times(60, 'c'))); return file.Clean(w, "+a") },
		}
		for _, f := range d.Files() {
			calls["Drop "+f.Name] = func(w *disk.Disk) error { return file.Drop(w, f.Name) }
		}
		for what, call := range calls {
			w := d.Twin()
			if err := call(w); err != nil {
				t.Fatalf("%s: %v", what, err)
			}
			for _, picks := range crashes() {
				if got := left(w, picks); got != show(w.Files()) {
					t.Errorf("%s: Crash%v: %s, want %s", what, picks, got, show(w.Files()))
				}
			}
		}
	}
}

func TestP6_8_Strokes(t *testing.T) {
	for _, d := range starts(t, 1000) {
		for _, data := range []string{"", "x", times(300, 'n')} {
			w := d.Twin()
			want := 5
			if bytesOf(w.Files(), "+a") != "none" {
				want = 6
			}
			wantPut(t, w, "a", data, api.OK)
			if w.Strokes() != want {
				t.Errorf("%s: %d strokes, want %d", show(d.Files()), w.Strokes(), want)
			}
			wantPut(t, w, "a", data, api.OK)
			if w.Strokes() != want+5 {
				t.Errorf("%s: %d strokes behind one more, want %d", show(d.Files()), w.Strokes(), want+5)
			}
		}
	}
}
