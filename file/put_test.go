package file_test

import (
	"fmt"
	"strings"
	"testing"

	"freight/api"
	"freight/disk"
	"freight/file"
)

// noNames are texts that are no name to be put, each for its own reason.
func noNames() []string {
	return []string{"", "+", "++", "+a", "++a", "A", "aA", "Aa", "a b", " ", " a", "a ", "a/b", "/", "a\x00", "\x00", "a\n", "ä", "aé", "\xff", "a\x80", "a,b", "a:b", "a`", "a{", "a@", "a*", "~", times(112, 'n'), times(113, 'n'), times(5000, 'n'), times(1<<20, 'n'), "+" + times(110, 'n'), "+" + times(111, 'n'), times(111, 'n') + "A", times(110, 'n') + "A"}
}

func TestP6_1_NoNames(t *testing.T) {
	for _, name := range noNames() {
		d := mustLoad(t, 100, of("a", "old"), of("+a", "left"))
		do(t, d.Append("a", []byte("er")))
		wantNothing(t, fmt.Sprintf("Put(%.20q)", name), d, func() {
			wantPut(t, d, name, "x", api.ErrName)
			wantPut(t, d, name, "", api.ErrName)
		})
	}
}

// Each byte alone, first, within and last.
func TestP6_1_EachByteOfAName(t *testing.T) {
	for b := range 256 {
		c := string([]byte{byte(b)})
		for _, name := range []string{c, c + "a", "a" + c + "a", "a" + c} {
			good := strings.Contains("abcdefghijklmnopqrstuvwxyz0123456789.-_", c) || c == "+" && name[0] == 'a'
			d := mustLoad(t, 100)
			if !good {
				wantPut(t, d, name, "x", api.ErrName)
				wantDisk(t, name, d, 0, "", "")
				continue
			}
			wantPut(t, d, name, "x", api.OK)
			wantDisk(t, name, d, 5, name+"=x", name+"=x")
		}
	}
}

func TestP6_1_LengthsOfNames(t *testing.T) {
	for _, n := range []int{1, 2, 3, 50, 109, 110, 111} {
		d := mustLoad(t, 100)
		name := times(n, 'n')
		wantPut(t, d, name, "x", api.OK)
		wantDisk(t, "Put", d, 5, name+"=x", name+"=x")
		do(t, d.Create("+"+name))
		wantPut(t, d, name, "y", api.OK)
		wantDisk(t, "Put", d, 12, name+"=y", name+"=y")
	}
	for _, n := range []int{0, 112, 113, 224, 1 << 16} {
		d := mustLoad(t, 100)
		wantPut(t, d, times(n, 'n'), "x", api.ErrName)
		wantDisk(t, "Put", d, 0, "", "")
	}
}

// A file that has a name of 112 bytes, or one with a +, is there for the disk alone.
func TestP6_1_NamesOfTheDiskAlone(t *testing.T) {
	long := times(112, 'n')
	d := mustLoad(t, 100, of(long, "l"), of("+a", "p"), of("+", "q"))
	for _, name := range []string{long, "+a", "+"} {
		wantNothing(t, name, d, func() { wantPut(t, d, name, "x", api.ErrName) })
	}
}

func TestP6_1_NameAheadOfOff(t *testing.T) {
	for what, d := range map[string]*disk.Disk{"nil": nil, "zero": {}, "off": off(t, of("a", "old"), of("+a", "left"))} {
		for _, name := range noNames() {
			wantNothing(t, what, d, func() { wantPut(t, d, name, "x", api.ErrName) })
		}
		for _, name := range []string{"a", "b", "a+", times(111, 'n')} {
			wantNothing(t, what, d, func() {
				wantPut(t, d, name, "x", api.ErrOff)
				wantPut(t, d, name, "", api.ErrOff)
				wantPut(t, d, name, times(5000, 'x'), api.ErrOff)
			})
		}
	}
}

// An argument's error comes ahead of the plan's too, and is no stroke of it.
func TestP6_1_NameAheadOfThePlan(t *testing.T) {
	d := mustLoad(t, 100)
	d.Plan(api.Plan{Off: 1, From: 1, To: 1})
	wantPut(t, d, "+a", "x", api.ErrName)
	wantPut(t, d, "a", "x", api.ErrOff)
	d = mustLoad(t, 100)
	d.Plan(api.Plan{From: 1, To: 1})
	wantPut(t, d, "A", "x", api.ErrName)
	wantPut(t, d, "a", "x", api.ErrFull)
	wantPut(t, d, "a", "x", api.OK)
}

func TestP6_1_Put(t *testing.T) {
	for _, data := range []string{"", "x", "new", times(90, 'n')} {
		d := mustLoad(t, 100, of("b", "xyz"))
		wantPut(t, d, "a", data, api.OK)
		wantDisk(t, "a new one", d, 5, "a="+data+" b=xyz", "a="+data+" b=xyz")
	}
	for _, data := range []string{"", "x", "old", "new data", times(90, 'n')} {
		d := mustLoad(t, 100, of("a", "old"), of("b", "xyz"))
		wantPut(t, d, "a", data, api.OK)
		wantDisk(t, "one for another", d, 5, "a="+data+" b=xyz", "a="+data+" b=xyz")
		d = mustLoad(t, 100, of("a", "old"), of("+a", "left"))
		wantPut(t, d, "a", data, api.OK)
		wantDisk(t, "a +a lay there", d, 6, "a="+data, "a="+data)
	}
	d := mustLoad(t, 100)
	if err := file.Put(d, "a", nil); err != nil {
		t.Errorf("Put of nil: %v", err)
	}
	wantDisk(t, "Put of nil", d, 5, "a=", "a=")
}

// The +name of another file is another file.
func TestP6_1_ThePlusOfOthersStays(t *testing.T) {
	d := mustLoad(t, 100, of("+aa", "1"), of("+", "2"), of("++a", "3"), of("a", "4"))
	wantPut(t, d, "a", "new", api.OK)
	want := "+=2 ++a=3 +aa=1 a=new"
	wantDisk(t, "Put", d, 5, want, want)
}

// A +name that is not safe: what a crash would leave of it is gone too.
func TestP6_1_APlusThatIsNotSafe(t *testing.T) {
	for what, prepare := range map[string]func(d *disk.Disk){
		"no sync":     func(d *disk.Disk) { do(t, d.Create("+a"), d.Append("+a", []byte("left"))) },
		"its bytes":   func(d *disk.Disk) { do(t, d.Create("+a"), d.Append("+a", []byte("left")), d.Sync("+a")) },
		"its name":    func(d *disk.Disk) { do(t, d.Create("+a"), d.Append("+a", []byte("left")), d.SyncNames()) },
		"by a rename": func(d *disk.Disk) { do(t, d.Create("z"), d.Append("z", []byte("left")), d.Rename("z", "+a")) },
	} {
		d := mustLoad(t, 100, of("a", "old"))
		prepare(d)
		strokes := d.Strokes()
		wantPut(t, d, "a", "new", api.OK)
		wantDisk(t, what, d, strokes+6, "a=new", "a=new")
		for _, picks := range crashes() {
			if got := left(d, picks); got != "a=new" {
				t.Errorf("%s: Crash%v: %s", what, picks, got)
			}
		}
	}
}

// A +name that a crash would bring back, but that is not shown, is not removed.
func TestP6_1_APlusThatIsRemoved(t *testing.T) {
	d := mustLoad(t, 100, of("a", "old"), of("+a", "left"))
	do(t, d.Remove("+a"))
	wantPut(t, d, "a", "new", api.OK)
	wantDisk(t, "Put", d, 6, "a=new", "a=new")
}

// way is a way that a Put takes: what each of its strokes leaves, if the power goes off at it.
type way struct {
	what    string
	files   []api.FileBytes
	data    string
	plan    api.Plan // when there is no room
	room    int
	answer  api.Errno
	strokes []after
}

// after is what is shown and what is safe, the power having gone off at that stroke.
type after struct {
	stroke, files, safe string
}

func ways() []way {
	old := []api.FileBytes{of("a", "old"), of("b", "xyz")}
	with := append(old[:2:2], of("+a", "left"))
	return []way{
		{"none of that name", nil, "new", api.Plan{}, 100, api.OK, []after{
			{"Create +a", "+a=", ""},
			{"Append +a", "+a=new", ""},
			{"Sync +a", "+a=new", ""},
			{"Rename +a a", "a=new", ""},
			{"SyncNames", "a=new", ""},
		}},
		{"one of that name", old, "new", api.Plan{}, 100, api.OK, []after{
			{"Create +a", "+a= a=old b=xyz", "a=old b=xyz"},
			{"Append +a", "+a=new a=old b=xyz", "a=old b=xyz"},
			{"Sync +a", "+a=new a=old b=xyz", "a=old b=xyz"},
			{"Rename +a a", "a=new b=xyz", "a=old b=xyz"},
			{"SyncNames", "a=new b=xyz", "a=old b=xyz"},
		}},
		{"a +a", with, "new", api.Plan{}, 100, api.OK, []after{
			{"Remove +a", "a=old b=xyz", "+a=left a=old b=xyz"},
			{"Create +a", "+a= a=old b=xyz", "+a=left a=old b=xyz"},
			{"Append +a", "+a=new a=old b=xyz", "+a=left a=old b=xyz"},
			{"Sync +a", "+a=new a=old b=xyz", "+a=left a=old b=xyz"},
			{"Rename +a a", "a=new b=xyz", "+a=left a=old b=xyz"},
			{"SyncNames", "a=new b=xyz", "+a=left a=old b=xyz"},
		}},
		{"no bytes", old, "", api.Plan{}, 6, api.OK, []after{
			{"Create +a", "+a= a=old b=xyz", "a=old b=xyz"},
			{"Append +a", "+a= a=old b=xyz", "a=old b=xyz"},
			{"Sync +a", "+a= a=old b=xyz", "a=old b=xyz"},
			{"Rename +a a", "a= b=xyz", "a=old b=xyz"},
			{"SyncNames", "a= b=xyz", "a=old b=xyz"},
		}},
		{"no room at Create", old, "new", api.Plan{From: 1, To: 1}, 100, api.ErrFull, []after{
			{"Create +a", "a=old b=xyz", "a=old b=xyz"},
		}},
		{"no room at Create, a +a", with, "new", api.Plan{From: 1, To: 2}, 100, api.ErrFull, []after{
			{"Remove +a", "a=old b=xyz", "+a=left a=old b=xyz"},
			{"Create +a", "a=old b=xyz", "+a=left a=old b=xyz"},
			{"SyncNames", "a=old b=xyz", "+a=left a=old b=xyz"},
		}},
		{"no room at Append", old, "new", api.Plan{From: 2, To: 9}, 100, api.ErrFull, []after{
			{"Create +a", "+a= a=old b=xyz", "a=old b=xyz"},
			{"Append +a", "+a= a=old b=xyz", "a=old b=xyz"},
			{"Remove +a", "a=old b=xyz", "a=old b=xyz"},
			{"SyncNames", "a=old b=xyz", "a=old b=xyz"},
		}},
		{"no room at Append of no bytes", old, "", api.Plan{From: 2, To: 2}, 100, api.ErrFull, []after{
			{"Create +a", "+a= a=old b=xyz", "a=old b=xyz"},
			{"Append +a", "+a= a=old b=xyz", "a=old b=xyz"},
			{"Remove +a", "a=old b=xyz", "a=old b=xyz"},
			{"SyncNames", "a=old b=xyz", "a=old b=xyz"},
		}},
		{"no room at Append, a +a", with, "new", api.Plan{From: 3, To: 3}, 100, api.ErrFull, []after{
			{"Remove +a", "a=old b=xyz", "+a=left a=old b=xyz"},
			{"Create +a", "+a= a=old b=xyz", "+a=left a=old b=xyz"},
			{"Append +a", "+a= a=old b=xyz", "+a=left a=old b=xyz"},
			{"Remove +a", "a=old b=xyz", "+a=left a=old b=xyz"},
			{"SyncNames", "a=old b=xyz", "+a=left a=old b=xyz"},
		}},
		{"above the room", old, "news", api.Plan{}, 9, api.ErrFull, []after{
			{"Create +a", "+a= a=old b=xyz", "a=old b=xyz"},
			{"Append +a", "+a= a=old b=xyz", "a=old b=xyz"},
			{"Remove +a", "a=old b=xyz", "a=old b=xyz"},
			{"SyncNames", "a=old b=xyz", "a=old b=xyz"},
		}},
		{"above the room, a +a", with, "newer than", api.Plan{}, 15, api.ErrFull, []after{
			{"Remove +a", "a=old b=xyz", "+a=left a=old b=xyz"},
			{"Create +a", "+a= a=old b=xyz", "+a=left a=old b=xyz"},
			{"Append +a", "+a= a=old b=xyz", "+a=left a=old b=xyz"},
			{"Remove +a", "a=old b=xyz", "+a=left a=old b=xyz"},
			{"SyncNames", "a=old b=xyz", "+a=left a=old b=xyz"},
		}},
	}
}

func TestP6_1_Ways(t *testing.T) {
	for _, w := range ways() {
		d := mustLoad(t, w.room, w.files...)
		d.Plan(w.plan)
		wantPut(t, d, "a", w.data, w.answer)
		last := w.strokes[len(w.strokes)-1]
		wantDisk(t, w.what, d, len(w.strokes), last.files, last.files)
		if d.Off() {
			t.Errorf("%s: the power is off", w.what)
		}
	}
}

func TestP6_1_ThePowerGoesOffAtEachStroke(t *testing.T) {
	for _, w := range ways() {
		for i, s := range w.strokes {
			what := w.what + ", off at " + s.stroke
			d := mustLoad(t, w.room, w.files...)
			plan := w.plan
			plan.Off = i + 1
			d.Plan(plan)
			wantPut(t, d, "a", w.data, api.ErrOff)
			wantDisk(t, what, d, i+1, s.files, s.safe)
			if !d.Off() {
				t.Errorf("%s: the power is on", what)
			}
			wantNothing(t, what+", once more", d, func() { wantPut(t, d, "a", w.data, api.ErrOff) })
		}
		// Behind the last stroke the power stays on.
		d := mustLoad(t, w.room, w.files...)
		plan := w.plan
		plan.Off = len(w.strokes) + 1
		d.Plan(plan)
		wantPut(t, d, "a", w.data, w.answer)
		if d.Off() || d.Strokes() != len(w.strokes) {
			t.Errorf("%s: %s", w.what, all(d))
		}
	}
}

// Which strokes these are, in which order: the same ones done by hand leave a disk that crashes tell nothing else of.
func TestP6_1_TheStrokesOfTheWays(t *testing.T) {
	for _, w := range ways() {
		for off := range len(w.strokes) + 1 {
			d := mustLoad(t, w.room, w.files...)
			d.Plan(api.Plan{Off: off, From: w.plan.From, To: w.plan.To})
			hand := words{disk: d.Twin()}
			for _, s := range w.strokes {
				call := strings.Fields(s.stroke)
				switch call[0] {
				case "Create":
					hand.create(call[1])
				case "Append":
					hand.append(call[1], w.data)
				case "Sync":
					hand.sync(call[1])
				case "Rename":
					hand.rename(call[1], call[2])
				case "Remove":
					hand.remove(call[1])
				case "SyncNames":
					hand.syncNames()
				}
			}
			file.Put(d, "a", []byte(w.data))
			if all(d) != all(hand.disk) || rows(d) != rows(hand.disk) {
				t.Errorf("%s, off at %d: %s\nwant %s", w.what, off, all(d), all(hand.disk))
			}
		}
	}
}

func TestP6_1_TooManyFiles(t *testing.T) {
	files := many(256)
	d := mustLoad(t, 100, files...)
	wantPut(t, d, "a", "x", api.ErrFiles)
	wantDisk(t, "a 257th", d, 1, show(files), show(files))
	wantPut(t, d, "m007", "x", api.ErrFiles)
	wantDisk(t, "one for another", d, 2, show(files), show(files))
	// Of too many files and of no room by the plan the first is said.
	d.Plan(api.Plan{From: 1, To: 1})
	wantPut(t, d, "a", "x", api.ErrFiles)
	wantDisk(t, "both", d, 3, show(files), show(files))
	d.Plan(api.Plan{Off: 1})
	wantPut(t, d, "a", "x", api.ErrOff)
	wantDisk(t, "off at it", d, 4, show(files), show(files))
}

func TestP6_1_AsManyFilesAsMayBe(t *testing.T) {
	d := mustLoad(t, 100, many(255)...)
	wantPut(t, d, "m000", "y", api.OK)
	wantPut(t, d, "a", "x", api.OK)
	if len(d.Files()) != 256 || d.Strokes() != 10 {
		t.Errorf("%d files, %d strokes", len(d.Files()), d.Strokes())
	}
	// One of 256 is the +name: it makes place.
	files := append(many(255), of("+m004", "left"))
	d = mustLoad(t, 100, files...)
	wantPut(t, d, "m004", "new", api.OK)
	if len(d.Files()) != 255 || d.Strokes() != 6 {
		t.Errorf("%d files, %d strokes", len(d.Files()), d.Strokes())
	}
	d = mustLoad(t, 100, files...)
	wantPut(t, d, "m005", "new", api.ErrFiles)
	if len(d.Files()) != 256 || d.Strokes() != 1 {
		t.Errorf("%d files, %d strokes", len(d.Files()), d.Strokes())
	}
}

// The room must have the old bytes and the new ones; a +name that goes first makes room.
func TestP6_1_Room(t *testing.T) {
	for n := range 12 {
		d := mustLoad(t, 10, of("a", "1234"), of("b", "1"))
		want, files, strokes := api.OK, "a="+times(n, 'x')+" b=1", 5
		if n > 5 {
			want, files, strokes = api.ErrFull, "a=1234 b=1", 4
		}
		wantPut(t, d, "a", times(n, 'x'), want)
		wantDisk(t, fmt.Sprint(n, " bytes"), d, strokes, files, files)
		d = mustLoad(t, 10, of("a", "1234"), of("b", "1"), of("+a", "12345"))
		wantPut(t, d, "a", times(n, 'x'), want)
		wantDisk(t, fmt.Sprint(n, " bytes, a +a"), d, strokes+1, files, files)
	}
}

// A crash may leave more bytes than the room: no bytes, and a file for one of more bytes, go on.
func TestP6_1_MoreBytesThanTheRoom(t *testing.T) {
	d := mustLoad(t, 10, of("a", times(10, 'a')))
	do(t, d.Create("b"), d.Truncate("a", 0), d.Append("b", []byte(times(10, 'b'))), d.Sync("b"), d.SyncNames())
	d.Crash()
	if d.Used() != 20 {
		t.Fatalf("%s", all(d))
	}
	before := show(d.Files())
	wantPut(t, d, "a", "x", api.ErrFull)
	wantDisk(t, "a byte", d, 4, before, before)
	wantPut(t, d, "c", "", api.OK)
	wantDisk(t, "no bytes", d, 9, before+" c=", before+" c=")
	wantPut(t, d, "a", "", api.OK)
	wantPut(t, d, "b", "", api.OK)
	wantPut(t, d, "a", times(10, 'A'), api.OK)
	wantDisk(t, "room again", d, 24, "a="+times(10, 'A')+" b= c=", "a="+times(10, 'A')+" b= c=")
}

// The plan counts on from call to call.
func TestP6_1_ThePlanGoesOn(t *testing.T) {
	d := mustLoad(t, 100)
	d.Plan(api.Plan{Off: 14, From: 7, To: 7})
	wantPut(t, d, "a", "1", api.OK)      // 1 to 5
	wantPut(t, d, "a", "2", api.ErrFull) // 6 to 9
	wantPut(t, d, "a", "3", api.ErrOff)  // 10 to 14: SyncNames
	wantDisk(t, "three", d, 14, "a=3", "a=1")
	d.Crash(-1)
	wantGet(t, d, "a", "3")
	d.Crash()
	wantGet(t, d, "a", "3")
}

// Many bytes at once, as a disk may have.
func TestP6_1_ManyBytes(t *testing.T) {
	d := mustLoad(t, api.MaxRoom)
	half := strings.Repeat("0123456789abcdef", api.MaxRoom/32)
	wantPut(t, d, "a", half, api.OK)
	wantPut(t, d, "a", half, api.OK)
	wantPut(t, d, "a", half+"!", api.ErrFull)
	wantGet(t, d, "a", half)
	wantPut(t, d, "a", "", api.OK)
	wantPut(t, d, "b", half+half, api.OK)
	wantGet(t, d, "b", half+half)
	wantPut(t, d, "b", "1", api.ErrFull)
}
