package depot_test

import (
	"encoding/binary"
	"fmt"
	"hash/crc32"
	"math/rand/v2"
	"slices"
	"testing"

	"freight/api"
	"freight/bundle"
	"freight/depot"
)

// forged is a bundle with a byte of a part turned, and all sums made anew: those of its
// blocks, of its entries and of its index.
func forged(data string, width, at int, by byte) string {
	row := []byte(data)
	row[at] ^= by
	face := faceOf(data, width)
	trailer := row[len(row)-31:]
	index := row[binary.BigEndian.Uint32(trailer[12:]):][:binary.BigEndian.Uint32(trailer[16:])]
	for k, b := range face.Blocks {
		if at >= b.At && at < b.At+b.Packed {
			binary.BigEndian.PutUint32(index[2+8*k+4:], crc32.ChecksumIEEE(row[b.At:b.At+b.Packed]))
		}
	}
	for k := range 2 {
		from, n := binary.BigEndian.Uint32(trailer[12*k:]), binary.BigEndian.Uint32(trailer[12*k+4:])
		if uint64(from)+uint64(n) <= uint64(len(row)) {
			binary.BigEndian.PutUint32(trailer[12*k+8:], crc32.ChecksumIEEE(row[from:from+n]))
		}
	}
	return string(row)
}

// wantAnyBytes asks for what P0.7 says of a file of any bytes in a depot of a ledger; it
// tells how the import and the restores ended.
func wantAnyBytes(t testing.TB, what string, l ledger, data string, met map[string]int) {
	t.Helper()
	l = l.clone()
	l.files["x"] = data
	d := l.load(t, api.MaxRoom)
	before := d.Disk().Twin()
	for _, s := range []api.Step{verify("x"), list("x")} {
		want := l.do(s)
		wantAnswer(t, d, s, want)
		wantSameDisk(t, what, d.Disk(), before)
		met[fmt.Sprint(rowOf(s.Kind).name, " ", int(want.Code))]++
	}
	face, err := bundle.Parse([]byte(data), l.width)
	chosen := [][]api.ID{nil}
	if err == nil {
		chosen = append(chosen, actionsOf(face.Results...))
	}
	for _, r := range face.Results {
		chosen = append(chosen, []api.ID{r.Action})
	}
	wantTaken(t, what, d, l, taking("a", "x", api.Take), actionsOf(face.Results...), face.Results, met)
	for _, actions := range chosen {
		wantTaken(t, what, d, l, restoring("a", "x", api.Take, actions...), actions, face.Results, met)
	}
}

// wantTaken asks for what P0.7 says of an import or restore of these actions.
func wantTaken(t testing.TB, what string, d *depot.Depot, l ledger, s api.Step, actions []api.ID, results []api.Result, met map[string]int) {
	t.Helper()
	w := twin(t, d, l.width)
	got := w.Do(s)
	met[fmt.Sprint(rowOf(s.Kind).name, " ", int(got.Code))]++
	if got.Code != api.OK {
		wantSameDisk(t, what+", "+name(s), w.Disk(), d.Disk())
		return
	}
	now := heldBy(t, what, w, "a", l.width) // asks for the ids
	taken := slices.DeleteFunc(slices.Clone(results), func(r api.Result) bool { return !slices.Contains(actions, r.Action) })
	if _, refused := needByWords(getOf(now.blobs), taken); refused.code != api.OK {
		t.Errorf("%s, %s: OK, and its need is %v", what, name(s), refused)
	}
	for _, r := range taken {
		if now.results[r.Action] != r {
			t.Errorf("%s, %s: OK, and %v is %v", what, name(s), r, now.results[r.Action])
		}
	}
	for id, data := range l.cache("a").blobs {
		if !now.has(id, data) {
			t.Errorf("%s, %s: a blob is another", what, name(s))
		}
	}
	if isOpen(w, "a") || l.cache("a").isWhole() && !now.isWhole() {
		t.Errorf("%s, %s: OK, and it is open, or not whole", what, name(s))
	}
}

// shelves are ledgers into whose cache a bundles of any bytes come.
func shelves(width int) []ledger {
	g := stock(width)
	empty, some := newLedger(width), newLedger(width)
	some.stow("a", goods{width, append(g.part(g.results[1]).blobs, "own"), g.results[1:2]})
	return []ledger{empty, some}
}

// Each byte of a bundle turned; each byte of its parts turned and all sums made anew;
// each length.
func TestP0_7_TurnedAndCut(t *testing.T) {
	met := map[string]int{}
	for _, width := range []int{1, 32} {
		g := stock(width)
		g = g.part(g.results[1:3]...)
		data := g.bundle(16)
		some := shelves(width)[1]
		for at := range len(data) {
			wantAnyBytes(t, fmt.Sprint("turned at ", at), some, turned(data, at), met)
			wantAnyBytes(t, fmt.Sprint("cut at ", at), some, data[:at], met)
			if at < len(data)-31 {
				wantAnyBytes(t, fmt.Sprint("forged at ", at), some, forged(data, width, at, byte(1<<(at%8))), met)
			}
		}
		wantAnyBytes(t, "whole", some, data, met)
		wantAnyBytes(t, "longer", some, data+"\x00", met)
	}
	wantMet(t, met, map[string][]api.Errno{
		"verify":  {api.OK, api.ErrBundle, api.ErrSum, api.ErrBlock, api.ErrDigest, api.ErrMissing},
		"list":    {api.OK, api.ErrBundle, api.ErrSum},
		"import":  {api.OK, api.ErrBundle, api.ErrSum, api.ErrBlock, api.ErrDigest, api.ErrMissing},
		"restore": {api.OK, api.ErrBundle, api.ErrSum, api.ErrBlock, api.ErrDigest, api.ErrMissing},
	})
}

// anyBytes are drawn: of no form at all, a bundle with bytes turned, cut, doubled, or of
// goods that are not good.
func anyBytes(r *rand.Rand, width int) string {
	g := stock(width)
	deep := chain(width, 7, crate)
	all := goods{width, slices.Concat(g.blobs, deep, []string{"more", emptyTree}), append(slices.Clone(g.results), res(20, idOf(width, deep[r.IntN(7)]), 1), res(21, idOf(width, "more"), 2))}
	if width == 1 {
		all = g // others of them clash
	}
	var some goods
	some.width = width
	for _, b := range all.blobs {
		if r.IntN(12) > 0 {
			some.blobs = append(some.blobs, b)
		}
	}
	for _, one := range all.results {
		if r.IntN(2) > 0 {
			some.results = append(some.results, one)
		}
	}
	data := some.bundle([]int{16, 17, 64, 4096}[r.IntN(4)])
	switch r.IntN(6) {
	case 0:
		row := make([]byte, r.IntN(200))
		for k := range row {
			row[k] = byte(r.IntN(256))
		}
		return string(row)
	case 1:
		return forged(data, width, r.IntN(len(data)-31), byte(1+r.IntN(255)))
	case 2:
		row := []byte(data)
		for range 1 + r.IntN(4) {
			row[r.IntN(len(row))] = byte(r.IntN(256))
		}
		return string(row)
	case 3:
		at := r.IntN(len(data))
		return data[:at] + data[at/2:]
	}
	return data
}

// Drawn bytes, in caches with much and with little.
func TestP0_7_Drawn(t *testing.T) {
	r := noise()
	met := map[string]int{}
	for i := range 1200 {
		width := []int{1, 2, 32}[i%3]
		wantAnyBytes(t, fmt.Sprint("drawn ", i), shelves(width)[i/3%2], anyBytes(r, width), met)
	}
	wantMet(t, met, map[string][]api.Errno{
		"verify":  {api.OK, api.ErrBundle, api.ErrSum, api.ErrDigest, api.ErrNoTree, api.ErrDeep, api.ErrMissing, api.ErrExtra},
		"import":  {api.OK, api.ErrBundle, api.ErrSum, api.ErrDigest, api.ErrNoTree, api.ErrDeep, api.ErrMissing, api.ErrExtra},
		"restore": {api.OK, api.ErrBundle, api.ErrSum, api.ErrDigest, api.ErrNoTree, api.ErrDeep, api.ErrMissing},
	})
}

// Cut off or refused for room behind the journal: what came has its ids, and a resume
// ends it.
func TestP0_7_CutOff(t *testing.T) {
	r := noise()
	ended := 0
	for i := range 1500 {
		width := []int{1, 32}[i%2]
		l := shelves(width)[i/2%2].clone()
		l.files["x"] = anyBytes(r, width)
		s := taking("a", "x", api.Take)
		if i%3 == 0 {
			s = restoring("a", "x", api.Take, acts(11, 13)...)
		}
		x := &trial{ledger: l, depot: l.load(t, api.MaxRoom), met: map[string]int{}}
		wantDone(t, x.depot, planning(api.Plan{Off: r.IntN(40), From: r.IntN(30), To: r.IntN(30)}))
		x.do(t, s, r.IntN)
		wantDone(t, x.depot, planning(api.Plan{}))
		if x.ledger.cache("a").open != nil {
			x.do(t, resume("a"), r.IntN)
			ended++
		}
		wantLedger(t, "in the end", x.depot, x.ledger)
	}
	if ended < 30 {
		t.Errorf("%d were open", ended)
	}
}

func FuzzAnyBytes(f *testing.F) {
	f.Add([]byte(stock(1).bundle(16)), uint(0))
	f.Add([]byte(stock(1).bundle(64)), uint(40))
	f.Add([]byte("none"), uint(3))
	f.Fuzz(func(t *testing.T, data []byte, at uint) {
		met := map[string]int{}
		if len(data) > api.MaxFile {
			return
		}
		wantAnyBytes(t, "any", shelves(1)[1], string(data), met)
		whole := stock(1).bundle(16)
		wantAnyBytes(t, "forged", shelves(1)[0], forged(whole, 1, int(at%uint(len(whole)-31)), byte(1+at%255)), met)
	})
}

// A restore of each set of actions, of each size, into each cache under each policy,
// leaves what an import of the bundle of these alone would, and reads no byte beside.
func TestP0_8_APart(t *testing.T) {
	for _, width := range []int{1, 32} {
		g := stock(width)
		for what, other := range seconds(g) {
			for _, size := range []int{16, 64} {
				for chosen := range 1 << len(g.results) {
					results := slices.DeleteFunc(slices.Clone(g.results), func(r api.Result) bool { return chosen>>(r.Action[0]-11)&1 == 0 })
					policy := policies()[chosen%3]
					l := newLedger(width)
					l.stow("a", other)
					whole, part := l.clone(), l.clone()
					whole.files["x"], part.files["x"] = g.bundle(size), g.part(results...).bundle(size)
					one, two := whole.load(t, api.MaxRoom), part.load(t, api.MaxRoom)
					s := restoring("a", "x", policy, actionsOf(results...)...)
					want := two.Do(taking("a", "x", policy))
					one.Disk().Look()
					wantAnswer(t, one, s, want)
					wantReads(t, what, one, whole.files["x"], width, g.needOf(results...))
					if got := heldBy(t, what, one, "a", width); !got.isLike(heldBy(t, what, two, "a", width)) || isOpen(one, "a") || isOpen(two, "a") {
						t.Errorf("%s, chosen %d: %v", what, chosen, got)
					}
				}
			}
		}
	}
}

// wantReads asks that of the file f.x nothing was read but its trailer, head, index,
// entries and the blocks that cover these blobs.
func wantReads(t testing.TB, what string, d *depot.Depot, data string, width int, need []api.ID) {
	t.Helper()
	allowed := append(frame("f.x", data), blocksOf("f.x", data, width, need)...)
	for _, read := range outside(d.Disk().Reads(), "f.x", allowed) {
		t.Errorf("%s: %v was read", what, read)
	}
}

// All blocks that are not needed are spoilt: nothing of it is seen; one that is needed
// is: ErrBlock, and nothing has changed.
func TestP0_8_SpoiltBeside(t *testing.T) {
	g := stock(32)
	data := g.bundle(16)
	face := faceOf(data, 32)
	for _, r := range g.results {
		need := blocksOf("f.x", data, 32, g.needOf(r))
		bad := data
		for k, b := range face.Blocks {
			if !slices.Contains(need, api.Span{Name: "f.x", At: b.At, N: b.Packed}) {
				bad = turned(bad, b.At)
				continue
			}
			d := load(t, 32, api.MaxRoom, of("f.x", spoilt(data, 32, k)))
			before := d.Disk().Twin()
			if got := d.Do(restoring("a", "x", api.Keep, r.Action)); got.Code != api.ErrBlock || got.ID == (api.ID{}) {
				t.Errorf("block %d is spoilt: %s", k, brief(got))
			}
			wantSameDisk(t, "spoilt", d.Disk(), before)
		}
		d := load(t, 32, api.MaxRoom, of("f.x", bad))
		wantDone(t, d, restoring("a", "x", api.Keep, r.Action))
		wantHolds(t, d, "a", 32, g.part(r).blobs, []api.Result{r})
		wantReads(t, "spoilt beside", d, data, 32, g.needOf(r))
	}
}

// A restore that is cut off and resumed reads no more of the file either.
func TestP0_8_Resumed(t *testing.T) {
	g := stock(32)
	data := g.bundle(16)
	for _, r := range g.results {
		for at := 6; ; at++ {
			d := load(t, 32, api.MaxRoom, of("f.x", data))
			wantDone(t, d, off(at))
			if d.Do(restoring("a", "x", api.Keep, r.Action)).Code == api.OK {
				break
			}
			wantDone(t, d, crash(at, at))
			if isOpen(d, "a") {
				wantDone(t, d, resume("a"))
				wantHolds(t, d, "a", 32, g.part(r).blobs, []api.Result{r})
			}
			wantReads(t, fmt.Sprint("off at ", at), d, data, 32, g.needOf(r))
		}
	}
}
