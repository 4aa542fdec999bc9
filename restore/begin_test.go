package restore_test

import (
	"encoding/binary"
	"fmt"
	"hash/crc32"
	"slices"
	"strings"
	"testing"

	"freight/api"
	"freight/cache"
	"freight/intake"
)

// asks are files and actions of all kinds, good ones first.
func asks() []ask {
	var list []ask
	for _, file := range []string{"f.x", "f.bad", "f.none", "F", ""} {
		for _, actions := range [][]api.ID{acts(11), nil, acts(99, 1)} {
			list = append(list, ask{file, actions, api.Keep})
		}
	}
	return list
}

// Ahead of a disk that is off, of an open import, and of every file.
func TestP17_2_NoPolicy(t *testing.T) {
	g := stock(32)
	bad := of("f.bad", "no bundle")
	good, open, dark := shelved(t, g, nil, nil, bad), shelved(t, g, nil, nil, bad, of("c.a.import", "open")), shelved(t, g, nil, nil, bad)
	darken(t, dark.disk)
	for _, a := range asks() {
		for _, policy := range noPolicies() {
			a.policy = policy
			for _, s := range append(noStores(), good, open, dark) {
				s.wantRefused(t, fmt.Sprint("policy ", policy), a, api.ErrArg, api.ID{})
			}
		}
	}
	for _, policy := range policies() {
		s := shelved(t, g, nil, nil)
		s.want(t, fmt.Sprint("policy ", policy), ask{"f.x", acts(11), policy}, api.OK, api.ID{})
	}
}

// Of a cache that is nil or zero, or whose disk is off; ahead of an open import,
// and of every file.
func TestP17_2_Off(t *testing.T) {
	g := stock(32)
	for _, beside := range [][]api.FileBytes{nil, {of("c.a.import", "open")}, {of("c.a.table", "no table")}} {
		dark := shelved(t, g, nil, nil, append(beside, of("f.bad", "no bundle"))...)
		darken(t, dark.disk)
		for _, a := range asks() {
			for _, policy := range policies() {
				a.policy = policy
				for _, s := range append(noStores(), dark) {
					s.wantRefused(t, "off", a, api.ErrOff, api.ID{})
				}
			}
		}
	}
}

// Behind the crash the same cache goes on.
func TestP17_2_OnAgain(t *testing.T) {
	g := stock(32)
	s := shelved(t, g, nil, nil)
	darken(t, s.disk)
	s.wantRefused(t, "off", ask{"f.x", acts(12), api.Keep}, api.ErrOff, api.ID{})
	s.disk.Crash()
	s.want(t, "on", ask{"f.x", acts(12), api.Keep}, api.OK, api.ID{})
	s.wantHolds(t, "on", g.part(g.results[1]).blobs, g.results[1:2])
}

// Whatever the import's file holds, and ahead of every file.
func TestP17_2_Open(t *testing.T) {
	g := stock(32)
	for _, data := range []string{"", "open", journalForm(g.journal(64, g.results[:1], g.results...)), g.bundle(64)} {
		s := shelved(t, g, nil, nil, of("f.bad", "no bundle"), of("c.a.import", data), of("c.a.table", "no table"))
		for _, a := range append(asks(), ask{"c.a.import", acts(11), api.Take}) {
			s.disk.Look()
			s.wantRefused(t, "open", a, api.ErrOpen, api.ID{})
			if len(s.disk.Reads()) > 0 {
				t.Errorf("open: %v was read", s.disk.Reads())
			}
		}
	}
}

// What is another cache's, or only begins so, is not open here.
func TestP17_2_NotOpen(t *testing.T) {
	g := stock(32)
	for _, name := range []string{"c.b.import", "c.aa.import", "+c.b.import", "c.a.import.", "c.a.imports", "c.import", "f.import"} {
		s := shelved(t, g, nil, nil, of(name, "theirs"))
		s.want(t, name, ask{"f.x", acts(12), api.Fail}, api.OK, api.ID{})
		s.wantHolds(t, name, g.part(g.results[1]).blobs, g.results[1:2])
		if data, _ := shown(s.disk, name); data != "theirs" {
			t.Errorf("%s is %q", name, data)
		}
	}
	s := shelved(t, g, nil, nil)
	s.hand(t, "+c.a.import", "left of a crash")
	s.want(t, "a draft", ask{"f.x", acts(12), api.Fail}, api.OK, api.ID{})
	s.wantHolds(t, "a draft", g.part(g.results[1]).blobs, g.results[1:2])
}

// An import that a refused restore leaves open; behind its end there may be others.
func TestP17_2_OpenBehindARefusal(t *testing.T) {
	g := stock(32)
	for _, end := range []func(c *cache.Cache) error{intake.Resume, intake.Abandon} {
		s := shelved(t, g, nil, nil)
		s.disk.Plan(api.Plan{From: 6, To: 6})
		s.want(t, "no room", ask{"f.x", acts(12), api.Take}, api.ErrFull, g.needOf(g.results[1])[0])
		s.wantRefused(t, "open", ask{"f.x", acts(11), api.Take}, api.ErrOpen, api.ID{})
		if err := end(s.cache); err != nil {
			t.Fatal(err)
		}
		s.want(t, "over", ask{"f.x", acts(11, 12), api.Take}, api.OK, api.ID{})
		s.wantHolds(t, "over", g.part(g.results[:2]...).blobs, g.results[:2])
	}
}

func TestP17_2_NoName(t *testing.T) {
	s := shelved(t, stock(32), nil, nil)
	for _, name := range []string{"", "F", "f x", "f/x", "f.x\n", "\x00", "\xff", "é", times(113, "n"), times(100000, "n"), "f.x\x00"} {
		s.wantRefused(t, name, ask{name, acts(11), api.Keep}, api.ErrName, api.ID{})
		s.wantRefused(t, name, ask{name, acts(99), api.Keep}, api.ErrName, api.ID{})
	}
}

func TestP17_2_NoFile(t *testing.T) {
	s := shelved(t, stock(32), nil, nil)
	for _, name := range []string{"f.z", "f", "+f.x", "f.x.", ".", "-", "_", "+", times(112, "n"), "c.a.table"} {
		s.wantRefused(t, name, ask{name, acts(11), api.Keep}, api.ErrNone, api.ID{})
	}
}

// A bundle may lie under any name of a disk, those of a cache's files among them.
func TestP17_2_AnyName(t *testing.T) {
	g := stock(32)
	for _, name := range []string{"f", "+", "+f.x", "-_.", times(112, "n"), "c.b.table", "c.b.import", "c.a.b.", "c.a.b.00", "+c.b.import", blobName("a", api.ID{1})} {
		s := stored(t, 32, nil, nil, of(name, g.bundle(16)))
		s.want(t, name, ask{name, acts(12), api.Fail}, api.OK, api.ID{})
		for _, b := range g.part(g.results[1]).blobs {
			if got, err := s.cache.Get(g.id(b)); err != nil || string(got) != b {
				t.Errorf("%s: %.10q, %v", name, got, err)
			}
		}
	}
}

// resealed is a bundle whose entries or index were written over, and have their
// sums all the same.
func resealed(data string, turn func(entries, index []byte)) string {
	whole := []byte(data)
	trailer := whole[len(whole)-31:]
	number := func(k int) int { return int(binary.BigEndian.Uint32(trailer[4*k:])) }
	entries, index := whole[number(0):number(0)+number(1)], whole[number(3):number(3)+number(4)]
	turn(entries, index)
	binary.BigEndian.PutUint32(trailer[8:], crc32.ChecksumIEEE(entries))
	binary.BigEndian.PutUint32(trailer[20:], crc32.ChecksumIEEE(index))
	return string(whole)
}

// noBundles are bytes that Open does not take.
func noBundles(g goods) map[string]struct {
	data string
	want api.Errno
} {
	data := g.bundle(64)
	frames := frame("f.x", data)
	manyBlobs := 2 + 65*len(g.results)
	type list = map[string]struct {
		data string
		want api.Errno
	}
	return list{
		"no bytes":         {"", api.ErrBundle},
		"42 bytes":         {data[:42], api.ErrBundle},
		"one byte less":    {data[:len(data)-1], api.ErrBundle},
		"one byte more":    {data + "f", api.ErrBundle},
		"too long":         {times(api.MaxFile+1, "f"), api.ErrBundleLong},
		"another width":    {stock(31).bundle(64), api.ErrBundle},
		"the first letter": {turned(data, 0), api.ErrBundle},
		"the last letter":  {turned(data, len(data)-1), api.ErrBundle},
		"entries":          {turned(data, frames[2].At+5), api.ErrSum},
		"index":            {turned(data, frames[3].At+frames[3].N-1), api.ErrSum},
		"33 results":       {resealed(data, func(e, _ []byte) { e[1] = 33 }), api.ErrMany},
		"65 blobs":         {resealed(data, func(e, _ []byte) { e[manyBlobs+1] = 65 }), api.ErrMany},
		"results fall":     {resealed(data, func(e, _ []byte) { e[2] = 200 }), api.ErrBundle},
		"blocks":           {resealed(data, func(_, i []byte) { i[1]++ }), api.ErrBundle},
	}
}

// As Open says, ahead of an action that is not there, and of all that the cache
// says.
func TestP17_2_NoBundle(t *testing.T) {
	g := stock(32)
	for what, x := range noBundles(g) {
		for _, table := range []string{"\x00", "no table"} {
			s := stored(t, 32, nil, nil, of("f.x", x.data), of("c.a.table", table))
			for _, actions := range [][]api.ID{acts(11), nil, acts(99)} {
				s.wantRefused(t, what, ask{"f.x", actions, api.Fail}, x.want, api.ID{})
			}
		}
	}
}

// The width is the cache's: a bundle of another one is none.
func TestP17_2_Widths(t *testing.T) {
	for _, width := range []int{1, 2, 8, 31, 32} {
		for _, other := range []int{1, 2, 8, 31, 32} {
			g := stock(other)
			s := stored(t, width, nil, nil, of("f.x", g.bundle(64)))
			if other != width {
				s.wantRefused(t, "another", ask{"f.x", acts(11), api.Keep}, api.ErrBundle, api.ID{})
				continue
			}
			s.want(t, "its own", ask{"f.x", acts(11), api.Keep}, api.OK, api.ID{})
			s.wantHolds(t, "its own", g.part(g.results[0]).blobs, g.results[:1])
		}
	}
}

// Each byte of the trailer, the head, the entries and the index turned; of blocks
// those of the need alone are met.
func TestP17_2_EachByteTurned(t *testing.T) {
	g := stock(8)
	data := g.bundle(16)
	met := map[api.Errno]int{}
	for at := range len(data) {
		s := stored(t, 8, nil, nil, of("f.x", turned(data, at)))
		met[s.wantAsTheWordsSay(t, fmt.Sprint("the byte ", at), ask{"f.x", acts(12, 13), api.Fail}).code]++
		if s.cache.Pending() {
			t.Errorf("the byte %d: it is open", at)
		}
	}
	for _, code := range []api.Errno{api.OK, api.ErrBundle, api.ErrSum, api.ErrBlock} {
		if met[code] < 5 {
			t.Errorf("%d is met %d times", code, met[code])
		}
	}
}

// The actions are those of the bundle, not the cache's; the least that lacks is
// named, and no block is read.
func TestP17_2_NoAction(t *testing.T) {
	g := stock(32)
	data := g.bundle(16)
	face := faceOf(data, 32)
	for _, b := range face.Blocks {
		data = turned(data, b.At)
	}
	s := stored(t, 32, nil, []api.Result{res(1, api.ID{}, 1), res(99, api.ID{}, 1)}, of("f.x", data))
	for _, x := range []struct {
		actions []api.ID
		least   api.ID
	}{
		{acts(1), act(1)},
		{acts(99), act(99)},
		{acts(15, 11, 99, 10), act(10)},
		{acts(11, 12, 13, 14, 15), act(15)},
		{[]api.ID{{12, 31: 1}, {12}}, api.ID{12, 31: 1}},
		{acts(0, 0), act(0)},
	} {
		s.disk.Look()
		s.wantRefused(t, fmt.Sprint(x.actions), ask{"f.x", x.actions, api.Take}, api.ErrNoAction, x.least)
		wantWithin(t, "no block", s.disk.Reads(), "f.x", frame("f.x", data))
	}
}

// The name in the fault is the file's, as it was handed in.
func TestP17_2_TheFilesName(t *testing.T) {
	g := stock(32)
	for _, name := range []string{"f.x", "+f.y", times(112, "n"), "c.b.table"} {
		s := stored(t, 32, nil, []api.Result{res(11, api.ID{}, 1)}, of(name, g.bundle(16)))
		s.wantRefused(t, name, ask{name, acts(11), 0}, api.ErrArg, api.ID{})
		s.wantRefused(t, name, ask{name, acts(9), api.Keep}, api.ErrNoAction, act(9))
		s.wantRefused(t, name, ask{name, acts(11), api.Fail}, api.ErrConflict, act(11))
	}
	none := &store{}
	for _, name := range []string{"", "F", "\xff\x00", times(5000, "é")} {
		none.wantRefused(t, name, ask{name, nil, api.Keep}, api.ErrOff, api.ID{})
		none.wantRefused(t, name, ask{name, nil, -1}, api.ErrArg, api.ID{})
		if err := (ask{name, nil, -1}).of(none); !strings.Contains(err.Error(), name) {
			t.Errorf("in words: %s", err)
		}
	}
}

// Of no actions, whatever the bundle's blobs are: the journal and its end.
func TestP17_2_NoActions(t *testing.T) {
	g := stock(32)
	own := []api.Result{res(1, g.results[0].Root, 9)}
	data := g.bundle(16)
	for _, b := range faceOf(data, 32).Blocks {
		data = turned(data, b.At)
	}
	for _, policy := range policies() {
		for _, file := range []string{data, g.bundle(64), goods{32, nil, nil}.bundle(16), goods{32, []string{"nobody's"}, nil}.bundle(16)} {
			for _, none := range [][]api.ID{nil, {}, acts(1)[:0]} {
				s := stored(t, 32, []string{crate}, own, of("f.x", file))
				before := s.disk.Files()
				s.want(t, "none", ask{"f.x", none, policy}, api.OK, api.ID{})
				if s.disk.Strokes() != 7 || !sameFiles(s.disk.Files(), before) {
					t.Errorf("%d strokes, %s", s.disk.Strokes(), show(s.disk.Files()))
				}
				s.wantOver(t, "none")
			}
		}
	}
}

// Actions in any order and several times: as if each stood once.
func TestP17_2_AnyOrder(t *testing.T) {
	g := stock(32)
	one := shelved(t, g, nil, nil)
	one.want(t, "in order", ask{"f.x", acts(11, 12, 14), api.Fail}, api.OK, api.ID{})
	for _, actions := range [][]api.ID{acts(14, 12, 11), acts(12, 14, 11, 12), slices.Repeat(acts(14, 11, 12), 50)} {
		s := shelved(t, g, nil, nil)
		s.want(t, "any order", ask{"f.x", actions, api.Fail}, api.OK, api.ID{})
		wantSameDisk(t, "any order", s.disk, one.disk)
	}
}
