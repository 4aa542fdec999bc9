package export_test

import (
	"bytes"
	"fmt"
	"slices"
	"testing"

	"freight/api"
	"freight/cache"
	"freight/export"
	"freight/file"
)

// noNames are what Put does not take.
func noNames() []string {
	return []string{
		"", "+", "+x", "++", "+" + times(110, "a"), times(112, "a"), times(113, "a"), times(70000, "a"),
		"A", "aB", "a b", " a", "a ", "a/b", "a\x00", "\x00", "\xff", "a\n", "\u00e4", "a,b", "a:b", "~", "*", "=", "{", "`", "@", "[",
	}
}

// names are what Put takes.
func names() []string {
	return []string{"x", "0", ".", "..", "-", "_", "a+", "a++b", "f.b", "c.a.x", "c.b.table", times(111, "a"), "abcdefghijklmnopqrstuvwxyz0123456789.-_+"}
}

func TestP14_2_NoName(t *testing.T) {
	good := stored(t, stock(32))
	dark := stored(t, stock(32))
	dark.darken(t)
	spoilt := stored(t, stock(32))
	spoilt.hand(t, "c.a.table", "no table")
	for _, name := range noNames() {
		for what, s := range map[string]*store{"good": good, "off": dark, "no table": spoilt, "nil": {}, "zero": {cache: &cache.Cache{}}} {
			before := s.disk.Twin()
			for _, actions := range [][]api.ID{nil, acts(1), acts(9)} {
				for _, size := range []int{64, 15, 4097} {
					err := export.Export(s.cache, actions, size, name)
					wantFault(t, fmt.Sprintf("%s: %.20q", what, name), err, "export.export", s.name, api.ErrName, api.ID{})
				}
			}
			wantSameDisk(t, fmt.Sprintf("%s: %.20q", what, name), s.disk, before)
		}
	}
}

// Each byte: it is a name alone, behind another, or neither.
func TestP14_2_EachByteOfAName(t *testing.T) {
	for b := range 256 {
		for _, name := range []string{string([]byte{byte(b)}), string([]byte{'x', byte(b)})} {
			s := stored(t, stock(32))
			want := api.OK
			if !isPutName.MatchString(name) {
				want = api.ErrName
			}
			if got := s.wantExported(t, fmt.Sprintf("%q", name), acts(2), 64, name); got != want {
				t.Errorf("%q: %d, want %d", name, got, want)
			}
		}
	}
}

func TestP14_2_Names(t *testing.T) {
	s := stored(t, stock(32))
	want := string(s.mustBuild(t, acts(1, 2), 64))
	for _, name := range names() {
		if s.wantExported(t, name, acts(1, 2), 64, name) != api.OK {
			t.Errorf("%s: refused", name)
		}
		if got, is := shown(s.disk, name); !is || got != want {
			t.Errorf("%s: %d bytes, want %d", name, len(got), len(want))
		}
	}
}

// As Build: a nil Cache, a zero one, one whose disk's power is off.
func TestP14_2_NoCache(t *testing.T) {
	for _, c := range []*cache.Cache{nil, {}} {
		wantFault(t, "no cache, no size", export.Export(c, acts(1), 15, "x"), "export.export", "", api.ErrArg, api.ID{})
		wantFault(t, "no cache", export.Export(c, acts(1), 16, "x"), "export.export", "", api.ErrOff, api.ID{})
		wantFault(t, "no cache, none", export.Export(c, nil, 4096, "x"), "export.export", "", api.ErrOff, api.ID{})
	}
}

// The fault has the cache's name, not the file's.
func TestP14_2_TheCachesName(t *testing.T) {
	g := stock(32)
	d := mustLoad(t, api.MaxRoom, slices.Concat(g.files("a"), g.files("b-2"), []api.FileBytes{of("c.0.table", "none")})...)
	for _, x := range []struct {
		name string
		want api.Errno
		id   api.ID
	}{{"a", api.ErrNoAction, act(9)}, {"b-2", api.ErrNoAction, act(9)}, {"0", api.ErrCache, api.ID{}}, {times(32, "z"), api.ErrNoAction, act(9)}} {
		s := opened(t, d, x.name, 32)
		s.wantRefused(t, x.name, acts(9), 64, x.want, x.id)
		wantFault(t, x.name, export.Export(s.cache, acts(9), 64, "+x"), "export.export", x.name, api.ErrName, api.ID{})
		d.Plan(api.Plan{From: 1, To: 1})
		want := api.ErrFull
		if x.want == api.ErrCache {
			want = api.ErrCache
		}
		wantFault(t, x.name, export.Export(s.cache, nil, 64, "x"), "export.export", x.name, want, api.ID{})
		d.Plan(api.Plan{})
	}
}

// lots are caches in which a file x is there or not, and one of its draft.
func lots(t *testing.T) map[string]*store {
	list := map[string]*store{}
	for what, beside := range map[string][]api.FileBytes{
		"none":        nil,
		"x":           {of("x", "a former file")},
		"+x":          {of("+x", "left of a crash")},
		"x and +x":    {of("x", times(2000, "x")), of("+x", times(3000, "+"))},
		"x, no bytes": {of("x", "")},
		"others":      {of("xx", "1"), of("+xx", "2"), of("w", "3"), of("+w", "4"), of("c.b.table", "\x00")},
	} {
		list[what] = stored(t, stock(32), beside...)
	}
	return list
}

// twin is a store that goes its own way from here on; its cache is opened anew, as
// no stroke is needed for that.
func (s *store) twin(t testing.TB) *store {
	t.Helper()
	return opened(t, s.disk.Twin(), s.name, s.width)
}

// The strokes of an export that is OK are those of Put.
func TestP14_2_Strokes(t *testing.T) {
	for what, s := range lots(t) {
		for _, actions := range [][]api.ID{nil, acts(2), acts(1, 2, 3, 4)} {
			w := s.twin(t)
			_, draft := shown(w.disk, "+x")
			want := 5
			if draft {
				want = 6
			}
			if w.wantExported(t, what, actions, 64, "x") != api.OK || w.disk.Strokes() != want {
				t.Errorf("%s: %d strokes, want %d", what, w.disk.Strokes(), want)
			}
			data := w.mustBuild(t, actions, 64)
			if got, err := file.Get(w.disk, "x"); err != nil || !bytes.Equal(got, data) {
				t.Errorf("%s: x has %d bytes, want %d", what, len(got), len(data))
			}
			if w.wantExported(t, what+", again", actions, 64, "x") != api.OK || w.disk.Strokes() != want+5 {
				t.Errorf("%s, again: %d strokes, want %d", what, w.disk.Strokes(), want+5)
			}
		}
	}
}

// There is no room at a stroke, or from one on.
func TestP14_2_NoRoomAtAStroke(t *testing.T) {
	refused := 0
	for what, s := range lots(t) {
		for from := 1; from <= 7; from++ {
			for _, to := range []int{from, from + 1, 99} {
				w := s.twin(t)
				w.disk.Plan(api.Plan{From: from, To: to})
				if w.wantExported(t, fmt.Sprint(what, ", no room from ", from, " to ", to), acts(1, 3), 64, "x") == api.ErrFull {
					refused++
				}
			}
		}
	}
	if refused < 20 {
		t.Errorf("refused %d times", refused)
	}
}

// The power goes off at each stroke; every call behind it is refused.
func TestP14_2_OffAtAStroke(t *testing.T) {
	for what, s := range lots(t) {
		done := s.twin(t)
		done.wantExported(t, what, acts(1, 3), 64, "x")
		for at := 1; at <= done.disk.Strokes()+1; at++ {
			w := s.twin(t)
			w.disk.Plan(api.Plan{Off: at})
			want := api.ErrOff
			if at > done.disk.Strokes() {
				want = api.OK
			}
			if got := w.wantExported(t, fmt.Sprint(what, ", off at ", at), acts(1, 3), 64, "x"); got != want {
				t.Errorf("%s, off at %d: %d, want %d", what, at, got, want)
			}
			if want == api.ErrOff {
				w.wantRefused(t, what+", behind it", acts(1), 64, api.ErrOff, api.ID{})
			}
		}
	}
}

// Refused for room, and the power goes off within that.
func TestP14_2_NoRoomAndOff(t *testing.T) {
	for what, s := range lots(t) {
		for from := 1; from <= 3; from++ {
			for at := 1; at <= 6; at++ {
				w := s.twin(t)
				w.disk.Plan(api.Plan{From: from, To: 9, Off: at})
				w.wantExported(t, fmt.Sprint(what, ", no room from ", from, ", off at ", at), acts(1, 3), 64, "x")
			}
		}
	}
}

// Just enough room, and one byte less: a former file lies there until the new one
// has its name.
func TestP14_2_TheDisksRoom(t *testing.T) {
	for what, s := range lots(t) {
		n := len(s.mustBuild(t, acts(1, 3), 64))
		draft, _ := shown(s.disk, "+x")
		used := s.disk.Used()
		for _, spare := range []int{n, n - 1, n + 1, 0, len(draft)} {
			room := used - len(draft) + spare
			if room < used {
				continue
			}
			w := opened(t, mustLoad(t, room, s.disk.Files()...), "a", 32)
			want := api.OK
			if spare < n {
				want = api.ErrFull
			}
			if got := w.wantExported(t, fmt.Sprint(what, ", spare ", spare-n), acts(1, 3), 64, "x"); got != want {
				t.Errorf("%s, spare %d: %d, want %d", what, spare-n, got, want)
			}
		}
	}
}

// MaxFiles files: there is no room for one more, though another would go.
func TestP14_2_TooManyFiles(t *testing.T) {
	s := stored(t, stock(32), of("x", "a former file"))
	for i := len(s.disk.Files()); i < api.MaxFiles-1; i++ {
		s.hand(t, fmt.Sprintf("m%03d", i), "")
	}
	if got := s.twin(t).wantExported(t, "one less", acts(1), 64, "x"); got != api.OK {
		t.Errorf("one less: %d", got)
	}
	s.hand(t, "m", "")
	for _, name := range []string{"x", "y"} {
		if got := s.wantExported(t, "all", acts(1), 64, name); got != api.ErrFiles {
			t.Errorf("all: %d", got)
		}
	}
	s.away(t, "m")
	s.hand(t, "+x", "left of a crash")
	if got := s.wantExported(t, "the draft makes room", acts(1), 64, "x"); got != api.OK {
		t.Errorf("the draft makes room: %d", got)
	}
}

// A Build that is refused leaves a draft that lay there.
func TestP14_2_RefusedAheadOfPut(t *testing.T) {
	for what, s := range lots(t) {
		for _, actions := range [][]api.ID{acts(9), acts(1, 9)} {
			s.wantRefused(t, what, actions, 64, api.ErrNoAction, act(9))
		}
		s.wantRefused(t, what, acts(1), 15, api.ErrArg, api.ID{})
	}
}

// Any name may be the file's, also one of the cache's own files: what Build took
// was read ahead of it.
func TestP14_2_OverTheCachesOwnFiles(t *testing.T) {
	g := stock(32)
	for _, name := range []string{"c.a.table", "c.a.import", blobName("a", g.id(crate)), blobName("a", g.id("another"))} {
		s := stored(t, g)
		want := string(s.mustBuild(t, acts(1), 64))
		if s.wantExported(t, name, acts(1), 64, name) != api.OK {
			t.Errorf("%s: refused", name)
		}
		if got, _ := shown(s.disk, name); got != want {
			t.Errorf("%s: %d bytes, want %d", name, len(got), len(want))
		}
		s.wantBuilt(t, name+", behind it", acts(1), 64)
	}
}

// The longest bundles are laid too.
func TestP14_2_ALongBundle(t *testing.T) {
	root, blobs := rowOf(api.MaxRow)
	s := stored(t, goods{32, append(blobs, root), []api.Result{res(1, idOf(32, root), 0)}})
	for _, size := range []int{api.MinBlock, api.MaxBlock} {
		if s.wantExported(t, fmt.Sprint("size ", size), acts(1), size, "x") != api.OK {
			t.Errorf("size %d: refused", size)
		}
	}
}
