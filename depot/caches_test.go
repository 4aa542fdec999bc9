package depot_test

import (
	"fmt"
	"slices"
	"testing"

	"freight/api"
)

// wantCaches asks for just these titles.
func wantCaches(t testing.TB, what string, got []string, want ...string) {
	t.Helper()
	if !slices.Equal(got, want) {
		t.Errorf("%s: %q, want %q", what, got, want)
	}
}

// Each row: a file's name, and the title that it tells; none, where it tells none.
func TestP19_5_Names(t *testing.T) {
	for _, row := range [][2]string{
		{"c.a.table", "a"}, {"c.a.", "a"}, {"c.a..", "a"}, {"c.a.b.c.d", "a"}, {"c.a.+", "a"}, {"c.a.c.b.", "a"},
		{"c.-.x", "-"}, {"c.0.x", "0"}, {"c.9-z.x", "9-z"}, {"c.c.c", "c"}, {"c.table.import", "table"},
		{"c." + times(32, "n") + ".", times(32, "n")}, {"c." + times(33, "n") + ".", ""},
		{"c.a", ""}, {"c.", ""}, {"c..", ""}, {"c..a", ""}, {"c...a", ""}, {"c", ""}, {"ca.b.c", ""}, {"c.a_b.x", ""}, {"c._.x", ""}, {"c.a+.x", ""}, {"c.+a.x", ""},
		{"+c.a.table", ""}, {"f.a.b", ""}, {"d.a.b", ""}, {"cc.a.b", ""}, {".c.a.b", ""}, {"c-a.b.c", ""}, {"c_a.b.c", ""}, {"b.c.a.x", ""}, {"-c.a.x", ""}, {"f.c", ""}, {"c.ab-", ""},
	} {
		d := load(t, 8, 1000, of(row[0], ""))
		if row[1] == "" {
			wantCaches(t, row[0], d.Caches())
			continue
		}
		wantCaches(t, row[0], d.Caches(), row[1])
	}
}

// By titles, not by files' names: a dash is lower than a dot, and a name that is the
// beginning of another's is the lower one.
func TestP19_5_Order(t *testing.T) {
	var files []api.FileBytes
	titles := []string{"-", "--", "-a", "0", "a", "a-", "a--", "a-b", "a0", "aa", "ab", "b", "b-", "c", "z"}
	for _, title := range titles {
		for _, rest := range []string{"table", "import", "", "b.0", "b.1", "-"} {
			files = append(files, of("c."+title+"."+rest, ""))
		}
	}
	r := noise()
	for range 20 {
		r.Shuffle(len(files), func(i, k int) { files[i], files[k] = files[k], files[i] })
		wantCaches(t, "all", load(t, 8, 1000, files...).Caches(), titles...)
	}
}

// A cache with many files is told once; one without a file is not told, though it was
// opened; one whose last file goes is gone.
func TestP19_5_Once(t *testing.T) {
	d := begin(t, 8, 100000)
	for k := range 40 {
		wantOK(t, d, put("many", fmt.Sprint("blob ", k)))
	}
	wantOK(t, d, put("a", crate))
	wantOK(t, d, telling("nobody"))
	wantCaches(t, "two", d.Caches(), "a", "many")
	wantDone(t, d, drop("a", idOf(8, crate)))
	wantCaches(t, "dropped", d.Caches(), "many")
	wantDone(t, d, hand("c.a.import", ""))
	wantCaches(t, "an import alone", d.Caches(), "a", "many")
	wantDone(t, d, abandon("a"))
	wantCaches(t, "abandoned", d.Caches(), "many")
	wantDone(t, d, write("c", "no cache"))
	wantCaches(t, "a file", d.Caches(), "many")
}

// None while the power is off, and of no depot.
func TestP19_5_Off(t *testing.T) {
	d := lit(t)
	wantCaches(t, "on", d.Caches(), "a")
	darken(t, d)
	wantCaches(t, "off", d.Caches())
	wantDone(t, d, crash())
	wantCaches(t, "on again", d.Caches(), "a")
	for _, none := range noDepots() {
		wantCaches(t, "none", none.Caches())
	}
}

// It is no stroke, and reads nothing; what it tells is new memory, and it tells the
// same each time.
func TestP19_5_Looks(t *testing.T) {
	d := load(t, 8, 100000, of("c.b.x", "1"), of("c.a.x", "2"), of("+c.c.x", "3"), of("c.d.x", ""))
	before := d.Disk().Twin()
	for range 50 {
		titles := d.Caches()
		wantCaches(t, "each time", titles, "a", "b", "d")
		fill(titles, "z")
	}
	wantSameDisk(t, "Caches", d.Disk(), before)
	if len(d.Disk().Reads()) != 0 {
		t.Errorf("it has read %v", d.Disk().Reads())
	}
}
