package bundle_test

import (
	"fmt"
	"testing"

	"freight/api"
	"freight/bundle"
)

// wantAsLook asks Parse for what Look of these bytes says.
func wantAsLook(t *testing.T, what string, data []byte, width int) {
	t.Helper()
	var asked [][2]int
	face, failed := bundle.Look(len(data), readOf(data, &asked), width)
	got, err := bundle.Parse(data, width)
	wantFace(t, what, got, err, "bundle.parse", face, api.Code(failed), api.ID{})
}

func TestP12_5_ParseIsLook(t *testing.T) {
	for _, width := range widths() {
		for _, size := range []int{16, 17, 4096} {
			data := stocked(width, size).bytes()
			wantAsLook(t, "good", data, width)
			for other := -1; other <= 34; other++ {
				wantAsLook(t, fmt.Sprint("width ", other, " of ", width), data, other)
			}
		}
	}
	for _, w := range wrongs() {
		d := stocked(31, 16)
		w.change(d)
		wantAsLook(t, w.what, d.bytes(), 31)
		wantAsLook(t, w.what+", another width", d.bytes(), 30)
		if _, err := bundle.Parse(d.bytes(), 31); api.Code(err) != w.want {
			t.Errorf("%s: %v, want %d", w.what, err, w.want)
		}
	}
}

func TestP12_5_Lengths(t *testing.T) {
	for _, n := range []int{0, 1, 31, 42, 43, 44, 1000, api.MaxFile, api.MaxFile + 1, 2 * api.MaxFile} {
		for _, b := range []byte{0, 1, 255} {
			wantAsLook(t, fmt.Sprint(n, " times ", b), times(n, b), 32)
			wantAsLook(t, fmt.Sprint(n, " times ", b, ", no width"), times(n, b), 0)
		}
	}
	wantAsLook(t, "nil", nil, 32)
	wantAsLook(t, "no bytes", []byte{}, 32)
}

// Bytes behind the length of the list are none of the bundle.
func TestP12_5_RoomIsNoByte(t *testing.T) {
	data := stocked(31, 16).bytes()
	whole := append(data, "more"...)
	if _, err := bundle.Parse(whole[:len(data)], 31); err != nil {
		t.Errorf("room behind it: %v", err)
	}
	for k := range data {
		_, err := bundle.Parse(whole[:k], 31)
		wantFault(t, fmt.Sprint("the first ", k), err, "bundle.parse", api.ErrBundle, api.ID{})
	}
}
