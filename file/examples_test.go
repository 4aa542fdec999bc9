package file_test

import (
	"strings"
	"testing"

	"freight/api"
	"freight/disk"
)

func TestExamples_Names(t *testing.T) {
	d := mustLoad(t, 100)
	for _, name := range []string{"", "+a", "A", times(112, 'n')} {
		wantPut(t, d, name, "x", api.ErrName)
	}
}

func TestExamples_Nil(t *testing.T) {
	wantPut(t, nil, "a", "x", api.ErrOff)
	wantPut(t, nil, "+a", "x", api.ErrName)
	wantNoGet(t, nil, "a", api.ErrOff)
	wantClean(t, nil, "", api.ErrOff)
}

func wantStrokes(t *testing.T, what string, d *disk.Disk, strokes int, names string) {
	t.Helper()
	if got := strings.Join(d.List(""), " "); d.Strokes() != strokes || got != names {
		t.Errorf("%s: %d strokes, %q, want %d, %q", what, d.Strokes(), got, strokes, names)
	}
}

// chapters is the chapter's disk behind its row of Put.
func chapters(t *testing.T) *disk.Disk {
	t.Helper()
	d := mustLoad(t, 100)
	wantPut(t, d, "a", times(60, 's'), api.OK)
	wantStrokes(t, "60 bytes", d, 5, "a")
	wantPut(t, d, "a", times(50, 'f'), api.ErrFull)
	wantStrokes(t, "50 bytes", d, 9, "a")
	wantGet(t, d, "a", times(60, 's'))
	do(t, d.Create("+a"))
	wantPut(t, d, "a", times(40, 'q'), api.OK)
	wantStrokes(t, "40 bytes", d, 16, "a")
	return d
}

func TestExamples_PutAndGet(t *testing.T) {
	d := chapters(t)
	wantGet(t, d, "a", times(40, 'q'))
	wantNoGet(t, d, "b", api.ErrNone)
	wantNoGet(t, d, "+a", api.ErrNone)
	wantNoGet(t, d, "a b", api.ErrName)
}

func TestExamples_Crash(t *testing.T) {
	d := chapters(t)
	cut := func(pick int) *disk.Disk {
		w := d.Twin()
		w.Plan(api.Plan{Off: 4})
		wantPut(t, w, "a", "x", api.ErrOff)
		w.Crash(pick)
		return w
	}
	w := cut(1)
	wantGet(t, w, "a", times(40, 'q'))
	wantGet(t, w, "+a", "x")
	w = cut(2)
	wantGet(t, w, "a", "x")
	wantNoGet(t, w, "+a", api.ErrNone)
	w = cut(3)
	wantGet(t, w, "a", times(40, 'q'))
	wantNoGet(t, w, "+a", api.ErrNone)
}

func TestExamples_CleanAndDrop(t *testing.T) {
	d := chapters(t)
	wantClean(t, d, "+", api.OK)
	wantStrokes(t, "Clean(+)", d, 16, "a")
	wantClean(t, d, "+", api.OK)
	wantStrokes(t, "Clean(+) once more", d, 16, "a")
	wantDrop(t, d, "a", api.OK)
	wantStrokes(t, "Drop(a)", d, 18, "")
	wantDrop(t, d, "a", api.ErrNone)
	wantStrokes(t, "Drop(a) once more", d, 18, "")
}
