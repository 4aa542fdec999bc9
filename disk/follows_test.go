package disk_test

import (
	"fmt"
	"slices"
	"strings"
	"testing"

	"freight/api"
	"freight/disk"
)

// choice chooses one of so many.
type choice func(n int) int

// anyCall is a call on few names, few bytes, with places that may be none.
func anyCall(choose choice) call {
	name := func() string {
		return []string{"a", "b", "c", "a", "b", "c", "a.b", "", "B", "+a"}[choose(10)]
	}
	data := func() string { return "0123456789"[:choose(7)] }
	switch choose(22) {
	case 0, 1, 2:
		return create(name())
	case 3, 4:
		return writeAt(name(), choose(8)-1, data())
	case 5, 6, 7:
		return appendTo(name(), data())
	case 8, 9:
		return truncate(name(), choose(8)-1)
	case 10, 11, 12:
		return rename(name(), name())
	case 13:
		return remove(name())
	case 14:
		return syncFile(name())
	case 15:
		return syncNames()
	case 16:
		return read(name(), choose(8)-1, choose(8)-1)
	case 17:
		return size(name())
	case 18:
		return list(name())
	case 19:
		return plan(choose(12)-1, choose(5)-1, choose(8)-1)
	case 20:
		return crash(anyPicks(choose)...)
	}
	return look()
}

func anyPicks(choose choice) []int {
	var picks []int
	for range choose(6) {
		picks = append(picks, choose(40)-10)
	}
	return picks
}

// wantAsWords asks a disk and the words the same, call by call.
func wantAsWords(t *testing.T, room int, calls []call) (*disk.Disk, *words) {
	t.Helper()
	d, w := mustNew(t, room), wordsOf(room)
	for i, c := range calls {
		if !wantSame(t, d, w, c, calls[:i]) {
			t.FailNow()
		}
	}
	return d, w
}

func anyCalls(choose choice, n int) []call {
	var calls []call
	for range n {
		calls = append(calls, anyCall(choose))
	}
	return calls
}

func TestFollows_LongRowsOfAnyCalls(t *testing.T) {
	r := noise()
	for i := range 1500 {
		d, w := wantAsWords(t, 8+i%20, anyCalls(r.IntN, 60))
		for range 5 {
			x, y := d.Twin(), w.twin()
			wantSame(t, x, y, crash(anyPicks(r.IntN)...), nil)
		}
	}
}

// eachBehindEach goes through all rows of so many of these calls, each from the state that the ones ahead of it have left.
func eachBehindEach(t *testing.T, d *disk.Disk, w *words, calls []call, depth int, before []call, at func(d *disk.Disk, w *words, before []call)) {
	t.Helper()
	at(d, w, before)
	if depth == 0 {
		return
	}
	for _, c := range calls {
		x, y := d.Twin(), w.twin()
		if !wantSame(t, x, y, c, before) {
			t.FailNow()
		}
		eachBehindEach(t, x, y, calls, depth-1, append(before[:len(before):len(before)], c), at)
	}
}

// someCrashes asks for what is left, at the ends of the rows and within them.
func someCrashes(t *testing.T) func(d *disk.Disk, w *words, before []call) {
	return func(d *disk.Disk, w *words, before []call) {
		t.Helper()
		for _, picks := range [][]int{nil, {1, 1, 1, 1}, {2, 2, 2, 2}, {-1, -1, -1, -1}, {1, 3, 2}, {0, 5, 3}} {
			if !wantSame(t, d.Twin(), w.twin(), crash(picks...), before) {
				t.FailNow()
			}
		}
	}
}

func TestFollows_EachCallBehindEach(t *testing.T) {
	start := []api.FileBytes{file("a", "crate"), file("b", "xy")}
	calls := []call{create("a"), create("c"), writeAt("a", 3, "TES"), writeAt("b", 0, "XYZ"), writeAt("c", 0, "new"), appendTo("a", "12"), appendTo("a", ""), appendTo("b", "long"), truncate("a", 1), truncate("b", 2), rename("a", "b"), rename("b", "a"), rename("a", "c"), rename("c", "a"), rename("b", "b"), remove("a"), remove("c"), syncFile("a"), syncFile("b"), syncNames(), read("a", 1, 2), plan(1, 0, 0), plan(2, 1, 1), crash(1, 1, 1)}
	eachBehindEach(t, mustLoad(t, 12, start...), wordsOf(12, start...), calls, 3, nil, someCrashes(t))
}

func TestFollows_ChangesOfNamesBehindEachOther(t *testing.T) {
	start := []api.FileBytes{file("a", "1"), file("b", "2")}
	calls := []call{create("a"), create("b"), rename("a", "b"), rename("b", "a"), remove("a"), appendTo("a", "x"), syncFile("a"), syncNames()}
	eachBehindEach(t, mustLoad(t, 50, start...), wordsOf(50, start...), calls, 5, nil, func(d *disk.Disk, w *words, before []call) {
		if len(before) < 5 {
			return
		}
		for names := range 4 {
			if !wantSame(t, d.Twin(), w.twin(), crash(names, 1, 1), before) {
				t.FailNow()
			}
		}
	})
}

func TestFollows_ChangesOfBytesBehindEachOther(t *testing.T) {
	start := []api.FileBytes{file("a", "123")}
	calls := []call{writeAt("a", 0, "xy"), writeAt("a", 2, "uvw"), appendTo("a", "z"), appendTo("a", ""), truncate("a", 0), truncate("a", 2), truncate("a", 3), syncFile("a")}
	eachBehindEach(t, mustLoad(t, 50, start...), wordsOf(50, start...), calls, 4, nil, func(d *disk.Disk, w *words, before []call) {
		for pick := range len(w.things[0].row) + 2 {
			if !wantSame(t, d.Twin(), w.twin(), crash(0, pick), before) {
				t.FailNow()
			}
		}
	})
}

func FuzzAsTheWordsSay(f *testing.F) {
	f.Add([]byte{40, 0, 0, 5, 0, 3, 15, 20, 2, 1, 1})
	f.Add([]byte{9, 0, 1, 7, 1, 6, 10, 1, 0, 14, 0, 19, 3, 1, 2, 13, 0, 3, 0, 2, 2, 20, 3, 1, 2, 3})
	f.Fuzz(func(t *testing.T, data []byte) {
		choose := func(n int) int {
			if len(data) == 0 {
				return 0
			}
			b := int(data[0])
			data = data[1:]
			return b % n
		}
		room := 1 + choose(60)
		var calls []call
		for len(data) > 0 && len(calls) < 100 {
			calls = append(calls, anyCall(choose))
		}
		wantAsWords(t, room, calls)
	})
}

// others are calls that leave the name a, and its thing's bytes, alone.
func others(choose choice) call {
	name := func() string { return []string{"b", "c", "d"}[choose(3)] }
	switch choose(7) {
	case 0:
		return create(name())
	case 1:
		return appendTo(name(), "0123"[:choose(5)])
	case 2:
		return truncate(name(), choose(3))
	case 3:
		return rename(name(), name())
	case 4:
		return remove(name())
	case 5:
		return syncFile(name())
	}
	return read("a", 0, 1)
}

// Synced bytes under a safe name, in either order, with anything done to others ahead, between and behind.
func TestP5_10_SafeIsSafe(t *testing.T) {
	r := noise()
	for i := range 2000 {
		d := mustNew(t, 100)
		mix := func() {
			for range r.IntN(6) {
				others(r.IntN).on(d)
			}
		}
		mix()
		do(t, d, create("t"), appendTo("t", "crate"))
		mix()
		do(t, d, truncate("t", 3), appendTo("t", "ne"), rename("t", "a"))
		mix()
		if i%2 == 0 {
			do(t, d, syncFile("a"))
			mix()
			do(t, d, syncNames())
		} else {
			do(t, d, syncNames())
			mix()
			do(t, d, syncFile("a"))
		}
		mix()
		if i%3 == 0 {
			do(t, d, plan(1, 0, 0))
			others(r.IntN).on(d)
		}
		d.Crash(anyPicks(r.IntN)...)
		if errno, got := read("a", 0, 5).on(d); errno != api.OK || got != "crane" {
			t.Fatalf("row %d: %q, %d: %s", i, got, errno, all(d))
		}
	}
}

// One of both alone is not enough.
func TestP5_10_OneSyncAlone(t *testing.T) {
	d := mustNew(t, 100)
	do(t, d, create("a"), appendTo("a", "crate"), syncFile("a"))
	wantLeft(t, d, nil, "")
	wantLeft(t, d, []int{1}, "a=crate")
	d = mustNew(t, 100)
	do(t, d, create("a"), appendTo("a", "crate"), syncNames())
	wantLeft(t, d, nil, "a=")
	wantLeft(t, d, []int{1, 5}, "a=crate")
}

// torn are all bytes that a file may have behind a crash: what it had shown, and that with a first part of the next write.
func torn(shown []string, next []call) []string {
	may := slices.Clone(shown)
	for i, c := range next {
		for n := range 5 {
			w := wordsOf(1000, file("a", shown[i]))
			c.on(w)
			w.Crash(0, n)
			if strings.HasPrefix(c.text, "WriteAt") || strings.HasPrefix(c.text, "Append") {
				may = append(may, w.text("a"))
			}
		}
	}
	return may
}

func TestP5_10_BytesThatWereShown(t *testing.T) {
	r := noise()
	for range 300 {
		d := mustLoad(t, 1000, file("a", "crate"))
		var next []call
		shown := []string{"crate"}
		for range r.IntN(8) {
			n, _ := d.Size("a")
			c := []call{appendTo("a", "wxyz"[:r.IntN(5)]), writeAt("a", r.IntN(n+1), "1234"[:r.IntN(5)]), truncate("a", r.IntN(n+1)), syncFile("a")}[r.IntN(4)]
			do(t, d, c)
			if c.text == `Sync("a")` {
				next, shown = nil, nil
			} else {
				next = append(next, c)
			}
			shown = append(shown, string(d.Files()[0].Data))
		}
		may := torn(shown, next)
		for pick := range 40 {
			w := d.Twin()
			w.Crash(0, pick)
			if got := string(w.Files()[0].Data); !slices.Contains(may, got) {
				t.Fatalf("behind %s, Crash(0, %d): %q, may be %q", texts(next), pick, got, may)
			}
		}
	}
}

func TestP5_11_SafeAndFiles(t *testing.T) {
	r := noise()
	for i := range 1000 {
		d, w := wantAsWords(t, 10+i%30, anyCalls(r.IntN, 25))
		safe, files := show(d.Safe()), show(d.Files())
		wantLeft(t, d, nil, safe)
		wantLeft(t, d, make([]int, 9), safe)
		wantLeft(t, d, w.wholePicks(), files)
	}
}

func TestP5_11_AllSynced(t *testing.T) {
	r := noise()
	for range 1000 {
		d := mustNew(t, 20)
		for _, c := range anyCalls(r.IntN, 25) {
			c.on(d)
		}
		if d.Off() {
			d.Crash(anyPicks(r.IntN)...)
		}
		do(t, d, plan(0, 0, 0))
		for range 3 {
			others(r.IntN).on(d)
		}
		syncs := []call{syncNames()}
		for _, name := range d.List("") {
			syncs = append(syncs, syncFile(name))
		}
		r.Shuffle(len(syncs), func(i, j int) { syncs[i], syncs[j] = syncs[j], syncs[i] })
		do(t, d, syncs...)
		files := show(d.Files())
		wantSafe(t, "all synced", d, files)
		for range 5 {
			wantLeft(t, d, anyPicks(r.IntN), files)
		}
	}
}

// wholeRow is what every crash of few picks would leave, and all that is told but the strokes.
func wholeRow(d *disk.Disk) string {
	text := fmt.Sprint(show(d.Files()), show(d.Safe()), d.Reads())
	for _, picks := range [][]int{nil, {1, 1, 1}, {2, 5, 3}, {-1, -1, -1}, {-2, -2, -2}} {
		w := d.Twin()
		w.Crash(picks...)
		text += show(w.Files())
	}
	return text
}

func isAhead(errno api.Errno) bool {
	return slices.Contains([]api.Errno{api.ErrName, api.ErrThere, api.ErrNone, api.ErrBeyond}, errno)
}

func TestP5_12_RefusedChangesNothing(t *testing.T) {
	r := noise()
	met := map[api.Errno]int{}
	for i := range 300 {
		d := mustNew(t, 5+i%10)
		for range 40 {
			c := anyCall(r.IntN)
			off, strokes, before := d.Off(), d.Strokes(), wholeRow(d)
			errno, _ := c.on(d)
			if errno == api.OK || errno == api.ErrOff && !off {
				continue
			}
			met[errno]++
			if wholeRow(d) != before {
				t.Fatalf("%s: refused with %d, but there is now: %s", c.text, errno, all(d))
			}
			want := strokes + 1
			if off || isAhead(errno) {
				want = strokes
			}
			if d.Strokes() != want {
				t.Fatalf("%s: refused with %d: %d strokes behind %d", c.text, errno, d.Strokes(), strokes)
			}
		}
	}
	for _, errno := range []api.Errno{api.ErrOff, api.ErrName, api.ErrThere, api.ErrNone, api.ErrBeyond, api.ErrFull} {
		if met[errno] < 20 {
			t.Errorf("error %d: met %d times alone", errno, met[errno])
		}
	}
}
