package disk_test

import (
	"fmt"
	"math"
	"testing"

	"freight/api"
)

func TestP5_8_Read(t *testing.T) {
	for at := -2; at <= 8; at++ {
		for n := -2; n <= 8; n++ {
			d := small(t)
			data, errno := d.Read("a", at, n)
			if at < 0 || n < 0 || at+n > 5 {
				if errno != api.ErrBeyond || len(data) != 0 || len(d.Reads()) != 0 {
					t.Errorf("Read(%d, %d): %q, %d, %v", at, n, data, errno, d.Reads())
				}
				continue
			}
			if errno != api.OK || string(data) != "crate"[at:at+n] || fmt.Sprint(d.Reads()) != fmt.Sprintf("[{a %d %d}]", at, n) {
				t.Errorf("Read(%d, %d): %q, %d, %v", at, n, data, errno, d.Reads())
			}
			if d.Strokes() != 0 {
				t.Errorf("Read(%d, %d): a stroke", at, n)
			}
		}
	}
}

func TestP5_8_ReadOfGreatNumbers(t *testing.T) {
	great := []int{math.MinInt, math.MinInt + 1, math.MinInt + 5, -math.MaxInt / 2, math.MaxInt / 2, math.MaxInt - 4, math.MaxInt - 1, math.MaxInt}
	d := small(t)
	for _, one := range great {
		for _, other := range append(great, -1, 0, 1, 5) {
			wantAhead(t, d, read("a", one, other), api.ErrBeyond)
			wantAhead(t, d, read("a", other, one), api.ErrBeyond)
		}
	}
}

func TestP5_8_ReadRefused(t *testing.T) {
	d := small(t)
	do(t, d, read("a", 1, 1))
	for _, x := range []struct {
		name  string
		at, n int
		want  api.Errno
	}{
		{"", 0, 0, api.ErrName},
		{"A", -1, -1, api.ErrName},
		{times(113, 'n'), 0, 0, api.ErrName},
		{"z", 0, 0, api.ErrNone},
		{"z", -1, 0, api.ErrNone},
		{"z", 9, 9, api.ErrNone},
		{"a", 6, 0, api.ErrBeyond},
		{"a", 5, 1, api.ErrBeyond},
	} {
		if data, errno := d.Read(x.name, x.at, x.n); errno != x.want || len(data) != 0 {
			t.Errorf("Read(%q, %d, %d): %q, %d, want %d", x.name, x.at, x.n, data, errno, x.want)
		}
		wantAhead(t, d, read(x.name, x.at, x.n), x.want)
	}
	do(t, d, plan(1, 0, 0))
	wantErrno(t, d, syncNames(), api.ErrOff)
	for _, name := range []string{"a", "", "z"} {
		if data, errno := d.Read(name, 0, 1); errno != api.ErrOff || len(data) != 0 {
			t.Errorf("Read(%q) while off: %q, %d", name, data, errno)
		}
	}
	if fmt.Sprint(d.Reads()) != "[{a 1 1}]" {
		t.Errorf("Reads: %v", d.Reads())
	}
}

// As they are shown, safe or not.
func TestP5_8_ReadOfWhatIsShown(t *testing.T) {
	d := small(t)
	want := func(name, text string) {
		t.Helper()
		if errno, got := size(name).on(d); errno != api.OK || got != fmt.Sprint(len(text)) {
			t.Errorf("Size(%q): %s, %d, want %d", name, got, errno, len(text))
		}
		if errno, got := read(name, 0, len(text)).on(d); errno != api.OK || got != text {
			t.Errorf("Read(%q): %q, %d, want %q", name, got, errno, text)
		}
		wantAhead(t, d, read(name, 0, len(text)+1), api.ErrBeyond)
	}
	want("a", "crate")
	do(t, d, writeAt("a", 2, "ANES"))
	want("a", "crANES")
	do(t, d, truncate("a", 3))
	want("a", "crA")
	do(t, d, rename("a", "b"))
	want("b", "crA")
	do(t, d, create("a"))
	want("a", "")
	d.Crash()
	want("a", "crate")
	want("b", "xy")
}

func TestP5_8_Size(t *testing.T) {
	d := small(t)
	for _, x := range []struct {
		name  string
		n     int
		errno api.Errno
	}{{"a", 5, api.OK}, {"b", 2, api.OK}, {"z", 0, api.ErrNone}, {"", 0, api.ErrName}, {"A", 0, api.ErrName}} {
		if n, errno := d.Size(x.name); n != x.n || errno != x.errno {
			t.Errorf("Size(%q): %d, %d", x.name, n, errno)
		}
	}
	do(t, d, plan(1, 0, 0))
	wantErrno(t, d, syncNames(), api.ErrOff)
	for _, name := range []string{"a", "z", ""} {
		if n, errno := d.Size(name); n != 0 || errno != api.ErrOff {
			t.Errorf("Size(%q) while off: %d, %d", name, n, errno)
		}
	}
}

func TestP5_8_List(t *testing.T) {
	d := mustNew(t, 10)
	for _, name := range []string{"b", "ab", "a", "a-", "a.b", "+a", "abc", "0"} {
		do(t, d, create(name))
	}
	for prefix, want := range map[string]string{
		"":               "+a 0 a a- a.b ab abc b",
		"a":              "a a- a.b ab abc",
		"ab":             "ab abc",
		"abc":            "abc",
		"abcd":           "",
		"b":              "b",
		"+":              "+a",
		"c":              "",
		"A":              "",
		"a b":            "",
		"\x00":           "",
		times(200, 'a'):  "",
		"a" + "\xff\xfe": "",
	} {
		if _, got := list(prefix).on(d); got != want {
			t.Errorf("List(%q): %q, want %q", prefix, got, want)
		}
	}
	do(t, d, remove("ab"), rename("a", "zz"))
	if _, got := list("").on(d); got != "+a 0 a- a.b abc b zz" {
		t.Errorf("behind Remove and Rename: %q", got)
	}
	strokes := d.Strokes()
	d.List("")
	if d.Strokes() != strokes || len(d.Reads()) != 0 {
		t.Errorf("List: a stroke, or a read")
	}
	do(t, d, plan(1, 0, 0))
	wantErrno(t, d, syncNames(), api.ErrOff)
	for _, prefix := range []string{"", "a", "zz"} {
		if got := d.List(prefix); len(got) != 0 {
			t.Errorf("List(%q) while off: %q", prefix, got)
		}
	}
	d.Crash(8)
	if _, got := list("a").on(d); got != "a a- a.b ab abc" {
		t.Errorf("behind a crash: %q", got)
	}
}

func TestP5_8_Reads(t *testing.T) {
	d := small(t)
	want := func(text string) {
		t.Helper()
		if got := fmt.Sprint(d.Reads()); got != text {
			t.Errorf("Reads: %s, want %s", got, text)
		}
	}
	want("[]")
	do(t, d, read("b", 0, 2), read("a", 5, 0), read("b", 0, 2), read("a", 0, 0))
	want("[{b 0 2} {a 5 0} {b 0 2} {a 0 0}]")
	do(t, d, rename("b", "c"), remove("a"), read("c", 1, 1))
	want("[{b 0 2} {a 5 0} {b 0 2} {a 0 0} {c 1 1}]")
	d.Crash(1)
	want("[{b 0 2} {a 5 0} {b 0 2} {a 0 0} {c 1 1}]")
	do(t, d, look())
	want("[]")
	do(t, d, look(), read("a", 1, 1))
	want("[{a 1 1}]")
	do(t, d, plan(1, 0, 0))
	wantErrno(t, d, syncNames(), api.ErrOff)
	want("[{a 1 1}]")
	do(t, d, look())
	want("[]")
	d.Crash()
	want("[]")
	// Nothing but Read is told.
	do(t, d, size("a"), list(""), create("e"), writeAt("a", 0, "x"), appendTo("a", "y"), truncate("a", 1), rename("a", "d"), remove("e"), syncFile("d"), syncNames())
	all(d)
	d.Twin()
	want("[]")
}
