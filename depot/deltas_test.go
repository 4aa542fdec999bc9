package depot_test

import (
	"fmt"
	"hash/crc32"
	"math/rand/v2"
	"testing"

	"freight/api"
	"freight/delta"
	"freight/depot"
)

// rows are a base and a target that have much in common, of few unlike bytes.
func rows(r *rand.Rand, most int) (string, string) {
	var base []byte
	for range r.IntN(most) {
		base = append(base, "0011ab"[r.IntN(6)])
	}
	var target []byte
	for range r.IntN(6) {
		if r.IntN(3) == 0 || len(base) == 0 {
			target = append(target, byte('0'+r.IntN(2)))
			continue
		}
		from := r.IntN(len(base))
		target = append(target, base[from:from+r.IntN(len(base)-from)+1]...)
	}
	return string(base), string(target)
}

// hasClash tells whether some block of a base and some window of a target are unlike, and
// have one sum and one id.
func hasClash(width, size int, base, target string) bool {
	weak := func(row string) api.Weak {
		s, _ := delta.Sign(width, []byte(row), size)
		return s.Blocks[0]
	}
	blocks := map[api.Weak]map[string]int{}
	for at := 0; at+size <= len(base); at += size {
		w := weak(base[at : at+size])
		if blocks[w] == nil {
			blocks[w] = map[string]int{}
		}
		blocks[w][base[at:at+size]]++
	}
	for at := 0; at+size <= len(target); at++ {
		for row := range blocks[weak(target[at:at+size])] {
			if row != target[at:at+size] {
				return true
			}
		}
	}
	return false
}

// wantThereAndBack signs x, makes the delta to y, applies it, and asks for what P0.9
// says; it tells how it ended.
func wantThereAndBack(t testing.TB, what string, width, size int, base, target string) string {
	t.Helper()
	d := load(t, width, api.MaxRoom, of("f.x", base), of("f.y", target))
	if got := d.Do(sign("x", size, "s")); got.Code != api.OK {
		if got.Code != api.ErrParts || len(base)/size <= api.MaxParts {
			t.Fatalf("%s: sign: %s", what, brief(got))
		}
		return "not signed"
	}
	if got := d.Do(differ("s", "y", "t")); got.Code != api.OK {
		t.Fatalf("%s: delta: %s", what, brief(got))
	}
	got := d.Do(apply("x", "t", "z"))
	made, is := shown(d.Disk(), "f.z")
	switch {
	case got.Code == api.OK && is && made == target:
		return "the target"
	case got.Code != api.OK && is:
		t.Fatalf("%s: refused, and there is a file", what)
	case got.Code == api.ErrTarget && hasClash(width, size, base, target):
		return "ErrTarget"
	case got.Code == api.OK && len(made) == len(target) && idOf(width, made) == idOf(width, target) && hasClash(width, size, base, target):
		return "a clash of the target"
	}
	t.Fatalf("%s: apply: %s", what, brief(got))
	return ""
}

// Drawn bases, targets and sizes.
func TestP0_9_ThereAndBack(t *testing.T) {
	r := noise()
	met := map[string]int{}
	for i := range 900 {
		width, size := []int{1, 32, 2}[i%3], 16+r.IntN(20)
		base, target := rows(r, 400)
		met[wantThereAndBack(t, fmt.Sprint("drawn ", i), width, size, base, target)]++
	}
	for _, target := range []string{clashTarget(), clashTarget()[:16]} {
		met[wantThereAndBack(t, "a clash", 1, 16, clashBase()[:16]+"and what is left", target)]++
	}
	if met["the target"] < 500 || met["ErrTarget"]+met["a clash of the target"] == 0 {
		t.Errorf("%v", met)
	}
}

// Rows of one sum and one id: now and then another row comes that clashes with the
// target, now and then ErrTarget; nothing else.
func TestP0_9_Clashes(t *testing.T) {
	met := map[string]int{}
	base, target := clashBase()[:16], clashTarget()[:16]
	for k := range 600 {
		tail := fmt.Sprint(k)
		met[wantThereAndBack(t, tail, 1, 16, base+"and what is left", target+tail)]++
	}
	if met["ErrTarget"] == 0 || met["a clash of the target"] == 0 || met["the target"] != 0 {
		t.Errorf("%v", met)
	}
}

// The edges: no bytes, less than a block, just a block, as many blocks as there may be.
func TestP0_9_Edges(t *testing.T) {
	texts := []string{"", "x", times(15, "x"), times(16, "x"), times(17, "x"), times(32, "x"), times(4, "crate 7 of 31, b")}
	for _, width := range []int{1, 32} {
		for _, base := range texts {
			for _, target := range texts {
				for _, size := range []int{16, 17, 4096} {
					wantThereAndBack(t, "edge", width, size, base, target)
				}
			}
		}
	}
	long := times(16*api.MaxParts/32, "a row of some thirty-two bytes. ")
	if got := wantThereAndBack(t, "long", 32, 16, long, "x"+long[:9999]); got != "the target" {
		t.Error(got)
	}
	if got := wantThereAndBack(t, "longer", 32, 16, long+times(16, "x"), long); got != "not signed" {
		t.Error(got)
	}
	most := times(131072, "m")
	if got := wantThereAndBack(t, "most", 32, 64, most, most); got != "the target" {
		t.Error(got)
	}
}

// recorded is the length and the id that a delta records of its target, by another hand.
func recorded(data string) (int, api.ID, int) {
	c := &cutting{data}
	c.take(1)
	width := min(c.number(), 32)
	c.number()
	c.number()
	c.take(width)
	length := c.number()
	var id api.ID
	copy(id[:], c.take(width))
	return length, id, width
}

// wantAnyDelta applies any bytes to any base: refused, with no file; or bytes with the
// length and the id that the delta records.
func wantAnyDelta(t testing.TB, what string, d *depot.Depot, base, data string) api.Errno {
	t.Helper()
	wantDone(t, d, write("x", base))
	wantDone(t, d, write("t", data))
	d.Do(erase("z"))
	before := d.Disk().Files()
	got := d.Do(apply("x", "t", "z"))
	made, is := shown(d.Disk(), "f.z")
	if got.Code != api.OK {
		if is || !sameFiles(d.Disk().Files(), before) {
			t.Fatalf("%s: refused, and there is another file", what)
		}
		return got.Code
	}
	if length, id, width := recorded(data); !is || len(made) != length || idOf(width, made) != id {
		t.Fatalf("%s: %d bytes, want %d", what, len(made), length)
	}
	return api.OK
}

// Each byte of a delta turned, each length cut; deltas of other bases; bytes that are no
// delta; deltas with bytes turned and their sum made anew.
func TestP0_9_AnyBytes(t *testing.T) {
	r := noise()
	met := map[api.Errno]int{}
	d := begin(t, 8, api.MaxRoom)
	base, target := times(3, "crate 7 of 31, b")+"end", "new, "+times(2, "crate 7 of 31, b")+"end"
	for _, width := range []int{1, 32} {
		data := deltaOf(width, base, target)
		for at := range len(data) {
			met[wantAnyDelta(t, "turned", d, base, turned(data, at))]++
			met[wantAnyDelta(t, "cut", d, base, data[:at])]++
		}
		for range 500 {
			row := []byte(data[:len(data)-4])
			for range 1 + r.IntN(3) {
				row[r.IntN(len(row))] ^= byte(1 << r.IntN(8))
			}
			met[wantAnyDelta(t, "forged", d, base, withSum(string(row)))]++
		}
		for k := range len(base) {
			met[wantAnyDelta(t, "another base", d, base[:k], data)]++
		}
		met[wantAnyDelta(t, "good", d, base, data)]++
	}
	for _, data := range []string{"", "none", base, target, signatureOf(8, base), stock(8).bundle(64), times(131072, "D")} {
		met[wantAnyDelta(t, "none", d, base, data)]++
	}
	for _, code := range []api.Errno{api.OK, api.ErrDelta, api.ErrBase, api.ErrTarget} {
		if met[code] == 0 {
			t.Errorf("%d is never met: %v", code, met)
		}
	}
}

// withSum is a row with its sum behind it.
func withSum(row string) string { return row + fixed(int(crc32.ChecksumIEEE([]byte(row)))) }

// A signature and a delta have their own width, which need not be the depot's.
func TestP0_9_OtherWidths(t *testing.T) {
	base, target := times(5, "crate 7 of 31, b"), "new, "+times(2, "crate 7 of 31, b")
	signer, maker, user := begin(t, 32, api.MaxRoom), begin(t, 1, api.MaxRoom), begin(t, 7, api.MaxRoom)
	wantDone(t, signer, write("x", base))
	wantDone(t, signer, sign("x", 16, "s"))
	wantDone(t, maker, write("s", string(wantOK(t, signer, read("s")).Data)))
	wantDone(t, maker, write("y", target))
	wantDone(t, maker, differ("s", "y", "t"))
	wantDone(t, user, write("t", string(wantOK(t, maker, read("t")).Data)))
	wantDone(t, user, write("x", base))
	wantDone(t, user, apply("x", "t", "z"))
	wantAnswer(t, user, read("z"), api.Answer{Data: []byte(target)})
}

// A newer bundle is carried as a delta against an older one that lies there already.
func TestP0_9_OfBundles(t *testing.T) {
	g := stock(32)
	home, away := begin(t, 32, api.MaxRoom), begin(t, 32, api.MaxRoom)
	for _, s := range putAll("a", g) {
		wantOK(t, home, s)
	}
	wantDone(t, home, export("a", "old", 16, acts(12, 13)...))
	wantDone(t, away, write("old", string(wantOK(t, home, read("old")).Data)))
	wantDone(t, away, taking("b", "old", api.Fail))
	wantDone(t, away, sign("old", 16, "s"))
	wantDone(t, home, write("s", string(wantOK(t, away, read("s")).Data)))
	wantDone(t, home, export("a", "new", 16, acts(11, 12, 13, 14)...))
	wantDone(t, home, differ("s", "new", "t"))
	carried := wantOK(t, home, read("t")).Data
	wantDone(t, away, write("t", string(carried)))
	wantDone(t, away, apply("old", "t", "new"))
	if string(wantOK(t, away, read("new")).Data) != string(wantOK(t, home, read("new")).Data) {
		t.Fatal("another bundle")
	}
	wantDone(t, away, taking("b", "new", api.Fail))
	wantHolds(t, away, "b", 32, g.blobs, g.results)
}
