package tree_test

import (
	"strings"
	"testing"

	"freight/tree"
)

func wantValid(t *testing.T, name string, want bool) {
	t.Helper()
	if got := tree.Valid(name); got != want {
		t.Errorf("Valid(%q) is %t", name, got)
	}
}

func TestP7_1_Lengths(t *testing.T) {
	for n, want := range map[int]bool{0: false, 1: true, 2: true, 31: true, 32: true, 33: false, 64: false, 1000000: false} {
		wantValid(t, strings.Repeat("n", n), want)
	}
	// Bytes are counted, not characters.
	wantValid(t, strings.Repeat("\u00e9", 16), true)
	wantValid(t, strings.Repeat("\u00e9", 16)+"n", false)
	wantValid(t, strings.Repeat("\u00e9", 17), false)
	wantValid(t, strings.Repeat("\u20ac", 10)+"nn", true)
	wantValid(t, strings.Repeat("\u20ac", 11), false)
	wantValid(t, strings.Repeat("\U0001f4e6", 8), true)
	wantValid(t, strings.Repeat("\U0001f4e6", 8)+"n", false)
	wantValid(t, strings.Repeat("\U0001f4e6", 32), false)
}

func TestP7_1_EachByte(t *testing.T) {
	for b := range 256 {
		one := string([]byte{byte(b)})
		may := b >= 32 && b < 127 && b != '/'
		wantValid(t, one, may && b != '.')
		for _, name := range []string{"a" + one, one + "a", "a" + one + "a", "\u00e9" + one + "\u00e9", one + one + one} {
			wantValid(t, name, may)
		}
	}
}

func TestP7_1_Dots(t *testing.T) {
	for name, want := range map[string]bool{
		".": false, "..": false,
		"...": true, "....": true, ".a": true, "..a": true, "a.": true, "a..": true, ". ": true, " .": true, ".. ": true, "./": false, "../": false, "./a": false, ".\x00": false,
	} {
		wantValid(t, name, want)
	}
}

func TestP7_1_Characters(t *testing.T) {
	for _, name := range []string{
		"\u0080", "\u009f", "\u00e9", "\u07ff", // two bytes; the controls above 127 are no bytes below 32
		"\u0800", "\u20ac", "\ud7ff", "\ue000", "\ufffe", "\uffff", "\ufeff", "\u2028", // three
		"\U00010000", "\U0001f4e6", "\U0010ffff", // four
		"\ufffd", "\ufffd\ufffd", "a\ufffd", "\ufffda", "\u2215", "\uff0f",
		"e\u0301", "\u0301",
	} {
		wantValid(t, name, true)
		wantValid(t, "a"+name+"b", true)
	}
}

func TestP7_1_NearlyCharacters(t *testing.T) {
	for what, broken := range map[string][]string{
		"cut":                             {"\xc3", "\xe2\x82", "\xe2", "\xf0\x9f\x93", "\xf0\x9f", "\xf0", "\xef\xbf", "\xef"},
		"a lone following byte":           {"\x80", "\xbf", "\u00e9\x80", "\xbd", "\ufffd\xbd"},
		"overlong":                        {"\xc0\x80", "\xc0\xaf", "\xc1\xbf", "\xe0\x80\x80", "\xe0\x9f\xbf", "\xf0\x80\x80\x80", "\xf0\x8f\xbf\xbf", "\xf0\x8f\xbf\xbd"},
		"a surrogate":                     {"\xed\xa0\x80", "\xed\xad\xbf", "\xed\xb0\x80", "\xed\xbf\xbf", "\xed\xa0\xbd\xed\xb3\xa6"},
		"above the greatest":              {"\xf4\x90\x80\x80", "\xf5\x80\x80\x80", "\xf7\xbf\xbf\xbf", "\xf8\x88\x80\x80\x80", "\xfe", "\xff"},
		"a following byte that is none":   {"\xc3a", "\xe2\x82a", "\xe2a\x82", "\xf0\x9f\x93a", "\xc3\xc3\xa9"},
		"beside the character told of it": {"\xef\xbf\xbd\xef", "\xef\xef\xbf\xbd", "\xff\ufffd", "\ufffd\xff"},
	} {
		for _, name := range broken {
			for _, text := range []string{name, "a" + name, name + "a", "\ufffd" + name, name + "\ufffd", strings.Repeat("n", 10) + name} {
				if tree.Valid(text) {
					t.Errorf("%s: Valid(%q)", what, text)
				}
			}
		}
	}
}

// All texts of at most four bytes out of those at which UTF-8 changes.
func TestP7_1_AsTheWordsSay(t *testing.T) {
	some := []byte{0, 31, 32, '.', '/', 'a', 126, 127, 0x80, 0x8f, 0x90, 0x9f, 0xa0, 0xbd, 0xbf, 0xc0, 0xc1, 0xc2, 0xdf, 0xe0, 0xe1, 0xec, 0xed, 0xee, 0xef, 0xf0, 0xf1, 0xf3, 0xf4, 0xf5, 0xff}
	var grow func(name []byte)
	grow = func(name []byte) {
		if text := string(name); tree.Valid(text) != validByWords(text) {
			t.Errorf("Valid(%q) is %t", text, tree.Valid(text))
		}
		if len(name) == 4 {
			return
		}
		for _, b := range some {
			grow(append(name[:len(name):len(name)], b))
		}
	}
	grow(nil)
}

func FuzzValid(f *testing.F) {
	for _, name := range []string{"", ".", "..", "a", "\ufffd", "\xef\xbf", "\xc3\xa9", strings.Repeat("n", 33)} {
		f.Add(name)
	}
	f.Fuzz(func(t *testing.T, name string) { wantValid(t, name, validByWords(name)) })
}
