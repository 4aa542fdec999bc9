package depot_test

import (
	"testing"

	"freight/api"
	"freight/depot"
	"freight/disk"
)

// Each width with each room, at their edges and far beyond them.
func TestP19_1_New(t *testing.T) {
	widths := map[int]bool{-1 << 63: false, -1: false, 0: false, 1: true, 2: true, 16: true, 31: true, 32: true, 33: false, 256: false, 257: false, 1<<32 + 1: false, 1<<63 - 1: false}
	rooms := map[int]bool{-1 << 63: false, -1: false, 0: false, 1: true, 2: true, 100000: true, 1048575: true, 1048576: true, 1048577: false, 1<<32 + 1: false, 1<<63 - 1: false}
	for width, isWidth := range widths {
		for room, isRoom := range rooms {
			d, errno := depot.New(api.Rules{Width: width, Room: room})
			if !isWidth || !isRoom {
				if d != nil || errno != api.ErrArg {
					t.Errorf("New(%d, %d): %v, %d, want ErrArg", width, room, d, errno)
				}
				continue
			}
			if d == nil || errno != api.OK {
				t.Errorf("New(%d, %d): %v, %d", width, room, d, errno)
				continue
			}
			wantEmpty(t, d, room)
		}
	}
}

// wantEmpty asks for an empty disk of that room.
func wantEmpty(t *testing.T, d *depot.Depot, room int) {
	t.Helper()
	empty, _ := disk.New(room)
	wantSameDisk(t, "new", d.Disk(), empty)
	if len(d.Disk().Files()) != 0 || len(d.Disk().Reads()) != 0 || d.Disk().Off() || d.Disk().Room() != room || len(d.Caches()) != 0 {
		t.Errorf("room %d: it has files, reads or caches, or is off", room)
	}
}

// No room is refused but by disk.New, and none is taken that it refuses.
func TestP19_1_RoomsOfTheDisk(t *testing.T) {
	for _, room := range []int{-5, 0, 1, 2, 77, api.MaxRoom - 1, api.MaxRoom, api.MaxRoom + 1, 2 * api.MaxRoom} {
		_, want := disk.New(room)
		if _, got := depot.New(api.Rules{Width: 8, Room: room}); got != want {
			t.Errorf("room %d: %d, want %d", room, got, want)
		}
	}
}

// The width is that of all ids, and the room that of all files.
func TestP19_1_WhatTheRulesAre(t *testing.T) {
	for width := 1; width <= 32; width++ {
		d := begin(t, width, 300)
		wantAnswer(t, d, put("a", crate), api.Answer{ID: idOf(width, crate)})
		wantAnswer(t, d, telling("a"), api.Answer{IDs: idsOf(width, crate)})
		wantDone(t, d, write("x", times(280, "x")))
		wantCode(t, d, write("y", "y"), api.ErrFull, api.ID{})
		wantDone(t, d, write("y", ""))
	}
	least := begin(t, 1, 1)
	wantDone(t, least, write("x", "x"))
	wantCode(t, least, write("y", "y"), api.ErrFull, api.ID{})
	greatest := begin(t, 32, api.MaxRoom)
	for _, title := range []string{"a", "b", "c", "d", "e", "f", "g", "h"} {
		wantDone(t, greatest, write(title, times(131072, title)))
	}
	wantCode(t, greatest, write("i", "i"), api.ErrFull, api.ID{})
}

// Two depots know nothing of each other.
func TestP19_1_EachForItself(t *testing.T) {
	one, other := begin(t, 8, 1000), begin(t, 8, 1000)
	if one == other || one.Disk() == other.Disk() {
		t.Fatal("two depots are one, or have one disk")
	}
	wantOK(t, one, put("a", crate))
	wantDone(t, one, write("x", "x"))
	wantEmpty(t, other, 1000)
	wantCode(t, other, read("x"), api.ErrNone, api.ID{})
	darken(t, one)
	wantDone(t, other, write("x", "y"))
}

// It is always the same one, whatever was done.
func TestP19_2_TheSameDisk(t *testing.T) {
	d := begin(t, 8, 1000)
	first := d.Disk()
	if first == nil {
		t.Fatal("no disk")
	}
	for _, s := range []api.Step{put("a", crate), write("x", "x"), off(1), put("a", pallet), crash(1, 2), crash(), {}, hand("c.b.table", "none"), erase("x")} {
		d.Do(s)
		if d.Disk() != first {
			t.Fatalf("%s: another disk", name(s))
		}
	}
}

// What is done to the disk is done to the depot, and the other way round.
func TestP19_2_DoneToTheDepot(t *testing.T) {
	d := begin(t, 8, 1000)
	k := d.Disk()
	for _, errno := range []api.Errno{k.Create("f.x"), k.Append("f.x", []byte("by the disk")), k.Create("c.q.table"), k.Append("c.q.table", []byte{0})} {
		if errno != api.OK {
			t.Fatal(errno)
		}
	}
	wantAnswer(t, d, read("x"), api.Answer{Data: []byte("by the disk")})
	if titles := d.Caches(); len(titles) != 1 || titles[0] != "q" {
		t.Errorf("%q", titles)
	}
	k.Truncate("f.x", 2)
	wantAnswer(t, d, read("x"), api.Answer{Data: []byte("by")})
	k.Plan(api.Plan{Off: 1})
	wantCode(t, d, write("y", "y"), api.ErrOff, api.ID{})
	if !k.Off() {
		t.Error("the disk is on")
	}
	k.Crash()
	wantCode(t, d, read("x"), api.ErrNone, api.ID{}) // it was not safe
	wantDone(t, d, write("y", "y"))
	if data, errno := k.Read("f.y", 0, 1); errno != api.OK || string(data) != "y" || k.Strokes() != 5 {
		t.Errorf("%q, %d, %d strokes", data, errno, k.Strokes())
	}
	wantDone(t, d, off(1))
	if errno := k.SyncNames(); errno != api.ErrOff {
		t.Errorf("the plan is not the disk's: %d", errno)
	}
}

// A nil and a zero Depot have no disk.
func TestP19_2_None(t *testing.T) {
	for _, d := range noDepots() {
		if d.Disk() != nil || len(d.Caches()) != 0 {
			t.Errorf("%v: a disk, or caches", d)
		}
		d.Do(crash())
		d.Do(planning(api.Plan{}))
		if d.Disk() != nil || len(d.Caches()) != 0 {
			t.Errorf("%v: a disk, or caches, behind steps", d)
		}
	}
}
