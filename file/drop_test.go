package file_test

import (
	"fmt"
	"testing"

	"freight/api"
	"freight/disk"
)

func TestP6_3_Drop(t *testing.T) {
	for _, name := range namesOfADisk() {
		for _, data := range []string{"", "crate"} {
			d := mustLoad(t, 100, of(name, data), of("other", "o"))
			wantDrop(t, d, name, api.OK)
			wantDisk(t, fmt.Sprintf("Drop(%.20q)", name), d, 2, "other=o", "other=o")
			wantNothing(t, name, d, func() { wantDrop(t, d, name, api.ErrNone) })
			wantNoGet(t, d, name, api.ErrNone)
		}
	}
}

// The +name of a file that goes is another file.
func TestP6_3_ThePlusStays(t *testing.T) {
	d := mustLoad(t, 100, of("a", "1"), of("+a", "2"), of("aa", "3"))
	wantDrop(t, d, "a", api.OK)
	wantDisk(t, "Drop(a)", d, 2, "+a=2 aa=3", "+a=2 aa=3")
	d = mustLoad(t, 100, of("a", "1"), of("+a", "2"), of("aa", "3"))
	wantDrop(t, d, "+a", api.OK)
	wantDisk(t, "Drop(+a)", d, 2, "a=1 aa=3", "a=1 aa=3")
}

func TestP6_3_NoNames(t *testing.T) {
	for what, d := range map[string]*disk.Disk{"nil": nil, "zero": {}, "off": off(t, of("a", "old")), "on": mustLoad(t, 100, of("a", "old"))} {
		for _, name := range noNamesOfADisk() {
			wantNothing(t, what, d, func() { wantDrop(t, d, name, api.ErrName) })
		}
	}
}

func TestP6_3_Off(t *testing.T) {
	for what, d := range map[string]*disk.Disk{"nil": nil, "zero": {}, "off": off(t, of("a", "old"), of("+a", ""))} {
		for _, name := range append(namesOfADisk(), "b") {
			wantNothing(t, what, d, func() { wantDrop(t, d, name, api.ErrOff) })
		}
	}
}

func TestP6_3_None(t *testing.T) {
	d := mustLoad(t, 100, of("a1", "x"), of("+b", "y"))
	d.Plan(api.Plan{Off: 1})
	for _, name := range append(namesOfADisk(), "b", "a11") {
		wantNothing(t, name, d, func() { wantDrop(t, d, name, api.ErrNone) })
	}
}

func TestP6_3_ThePowerGoesOff(t *testing.T) {
	for i, files := range []string{"b=xyz", "b=xyz"} {
		d := mustLoad(t, 100, of("a", "old"), of("b", "xyz"))
		d.Plan(api.Plan{Off: i + 1})
		wantDrop(t, d, "a", api.ErrOff)
		wantDisk(t, fmt.Sprint("off at ", i+1), d, i+1, files, "a=old b=xyz")
		wantNothing(t, "once more", d, func() { wantDrop(t, d, "a", api.ErrOff) })
		d.Crash()
		wantGet(t, d, "a", "old")
		wantDrop(t, d, "a", api.OK)
		wantDisk(t, "behind a crash", d, 2, "b=xyz", "b=xyz")
	}
	d := mustLoad(t, 100, of("a", "old"))
	d.Plan(api.Plan{Off: 3})
	wantDrop(t, d, "a", api.OK)
	wantDisk(t, "off at 3", d, 2, "", "")
}

// No plan's lack of room touches a Drop or a Clean: they make nothing.
func TestP6_3_NoRoomIsNeeded(t *testing.T) {
	d := mustLoad(t, 6, of("a", "old"), of("b", "xyz"))
	d.Plan(api.Plan{From: 1, To: 100})
	wantDrop(t, d, "a", api.OK)
	wantClean(t, d, "", api.OK)
	wantDisk(t, "both", d, 4, "", "")
}
