package depot_test

import (
	"maps"
	"slices"
	"strings"
	"testing"

	"freight/api"
	"freight/bundle"
	"freight/delta"
	"freight/depot"
)

// effect is what a step does: its answer, its strokes, the files that come or are
// others behind it, and those that go.
type effect struct {
	answer  api.Answer
	strokes int
	lays    map[string]string
	takes   []string
}

// wantEffect asks a step for just that.
func wantEffect(t testing.TB, d *depot.Depot, s api.Step, want effect) {
	t.Helper()
	files, strokes := filed(d.Disk().Files()), d.Disk().Strokes()
	wantAnswer(t, d, s, want.answer)
	maps.Copy(files, want.lays)
	for _, gone := range want.takes {
		if _, is := files[gone]; !is {
			t.Errorf("%s: no file %s", name(s), gone)
		}
		delete(files, gone)
	}
	if !maps.Equal(filed(d.Disk().Files()), files) {
		t.Errorf("%s: %s", name(s), show(d.Disk().Files()))
	}
	if got := d.Disk().Strokes() - strokes; got != want.strokes {
		t.Errorf("%s: %d strokes, want %d", name(s), got, want.strokes)
	}
	if !sameFiles(d.Disk().Files(), d.Disk().Safe()) {
		t.Errorf("%s: not all is safe", name(s))
	}
}

// idle is a step that answers that, and does nothing to the disk.
func idle(answer api.Answer) effect { return effect{answer: answer} }

// laying is a step that tells nothing, and lays one file by a Put.
func laying(name, data string) effect {
	return effect{strokes: 5, lays: map[string]string{name: data}}
}

func TestP19_3_Put(t *testing.T) {
	for _, width := range []int{1, 8, 32} {
		d := begin(t, width, 100000)
		for _, data := range []string{"", crate, times(4096, "m")} {
			id := idOf(width, data)
			want := laying(blobName("a", id), data)
			want.answer.ID = id
			wantEffect(t, d, put("a", data), want)
			wantEffect(t, d, put("a", data), idle(api.Answer{ID: id}))
			want = laying(blobName("b", id), data)
			want.answer.ID = id
			wantEffect(t, d, put("b", data), want)
		}
		wantEffect(t, d, put("a", times(4097, "m")), idle(api.Answer{Code: api.ErrLong}))
	}
}

func TestP19_3_Set(t *testing.T) {
	g := stock(8)
	d := begin(t, 8, 100000)
	for _, b := range g.blobs {
		wantOK(t, d, put("a", b))
	}
	wantEffect(t, d, set("a", g.results[1]), laying("c.a.table", tableForm(g.results[1:2])))
	wantEffect(t, d, set("a", g.results[1]), idle(api.Answer{}))
	wantEffect(t, d, set("a", g.results[0]), laying("c.a.table", tableForm(g.results[:2])))
	other := g.results[0]
	other.Code = 0
	wantEffect(t, d, set("a", other), laying("c.a.table", tableForm([]api.Result{other, g.results[1]})))
	wantEffect(t, d, set("b", g.results[2]), idle(said{api.ErrMissing, g.results[2].Root}.answer()))
}

func TestP19_3_DropAndGet(t *testing.T) {
	g := stock(8)
	d := load(t, 8, 100000, g.files("a")...)
	for _, b := range g.blobs {
		wantEffect(t, d, get("a", g.id(b)), idle(api.Answer{Data: []byte(b)}))
		wantEffect(t, d, drop("a", g.id(b)), effect{strokes: 2, takes: []string{blobName("a", g.id(b))}})
		wantEffect(t, d, get("a", g.id(b)), idle(said{api.ErrNoBlob, g.id(b)}.answer()))
		wantEffect(t, d, drop("a", g.id(b)), idle(said{api.ErrNoBlob, g.id(b)}.answer()))
	}
	wantEffect(t, d, get("b", act(9)), idle(said{api.ErrNoBlob, act(9)}.answer()))
}

func TestP19_3_Cache(t *testing.T) {
	g := stock(8)
	d := load(t, 8, 100000, append(g.files("a"), of(blobName("b", g.id(crate)), "damage"), of("c.b.import", ""))...)
	wantEffect(t, d, telling("a"), idle(api.Answer{IDs: g.ids(), Results: g.results}))
	wantEffect(t, d, telling("b"), idle(api.Answer{IDs: idsOf(8, crate)}))
	wantEffect(t, d, telling("nobody"), idle(api.Answer{}))
}

func TestP19_3_Export(t *testing.T) {
	g := stock(8)
	d := load(t, 8, 100000, append(g.files("a"), of("f.x", "a former one"))...)
	for _, size := range []int{16, 64, 4096} {
		for _, results := range [][]api.Result{g.results, g.results[1:2], nil, g.results[2:]} {
			actions := actionsOf(results...)
			want := laying("f.x", g.part(results...).bundle(size))
			wantEffect(t, d, export("a", "x", size, actions...), want)
			slices.Reverse(actions)
			wantEffect(t, d, export("a", "x", size, append(actions, actions...)...), want)
		}
	}
	wantEffect(t, d, export("nobody", "y", 64), laying("f.y", goods{width: 8}.bundle(64)))
	wantEffect(t, d, export("a", "x", 15), idle(api.Answer{Code: api.ErrArg}))
	wantEffect(t, d, export("a", "x", 64, act(9), act(11), act(8)), idle(said{api.ErrNoAction, act(8)}.answer()))
}

// cached are the files of a cache, by their names.
func (g goods) cached(name string) map[string]string { return filed(g.files(name)) }

func TestP19_3_Import(t *testing.T) {
	g := stock(8)
	for _, policy := range policies() {
		d := load(t, 8, 100000, of("f.x", g.bundle(64)))
		wantEffect(t, d, taking("a", "x", policy), effect{strokes: 12 + 5*len(g.blobs), lays: g.cached("a")})
		wantEffect(t, d, taking("a", "x", policy), effect{strokes: 7})
	}
	changed := slices.Clone(g.results)
	changed[1].Code = 3
	for policy, want := range map[int]effect{
		api.Keep: {strokes: 7},
		api.Take: {strokes: 12, lays: map[string]string{"c.a.table": tableForm(g.results)}},
		api.Fail: idle(said{api.ErrConflict, changed[1].Action}.answer()),
		0:        idle(api.Answer{Code: api.ErrArg}),
		4:        idle(api.Answer{Code: api.ErrArg}),
	} {
		d := load(t, 8, 100000, append(goods{8, g.blobs, changed}.files("a"), of("f.x", g.bundle(64)))...)
		wantEffect(t, d, taking("a", "x", policy), want)
	}
}

func TestP19_3_Restore(t *testing.T) {
	g := stock(8)
	for _, results := range [][]api.Result{g.results[:1], g.results[1:3], g.results, nil} {
		part := g.part(results...)
		d := load(t, 8, 100000, of("f.x", g.bundle(64)))
		want := effect{strokes: 12 + 5*len(part.blobs), lays: part.cached("a")}
		if len(results) == 0 {
			want = effect{strokes: 7}
		}
		wantEffect(t, d, restoring("a", "x", api.Keep, actionsOf(results...)...), want)
		wantEffect(t, d, restoring("a", "x", api.Fail, actionsOf(results...)...), effect{strokes: 7})
	}
	changed := slices.Clone(g.results)
	changed[1].Code = 3
	for policy, want := range map[int]effect{
		api.Keep: {strokes: 7},
		api.Take: {strokes: 12, lays: map[string]string{"c.a.table": tableForm(g.results)}},
		api.Fail: idle(said{api.ErrConflict, changed[1].Action}.answer()),
		-1:       idle(api.Answer{Code: api.ErrArg}),
	} {
		d := load(t, 8, 100000, append(goods{8, g.blobs, changed}.files("a"), of("f.x", g.bundle(64)))...)
		wantEffect(t, d, restoring("a", "x", policy, act(12)), want)
		wantEffect(t, d, restoring("a", "x", api.Keep, act(12), act(9)), idle(said{api.ErrNoAction, act(9)}.answer()))
	}
}

// opening is a depot in whose cache a an import of x is open, cut off for room at its
// first blob.
func opening(t testing.TB, g goods) *depot.Depot {
	t.Helper()
	d := load(t, g.width, 100000, of("f.x", g.bundle(64)))
	wantDone(t, d, planning(api.Plan{From: 6, To: 6}))
	wantCode(t, d, taking("a", "x", api.Keep), api.ErrFull, g.ids()[0])
	return d
}

func TestP19_3_ResumeAndAbandon(t *testing.T) {
	g := stock(8)
	d := opening(t, g)
	for _, s := range []api.Step{put("a", crate), set("a", g.results[0]), drop("a", g.ids()[0]), taking("a", "x", api.Keep), restoring("a", "x", api.Keep)} {
		wantEffect(t, d, s, idle(api.Answer{Code: api.ErrOpen}))
	}
	wantEffect(t, d, telling("a"), idle(api.Answer{}))
	wantEffect(t, twin(t, d, 8), resume("a"), effect{strokes: 5*len(g.blobs) + 5 + 2, lays: g.cached("a"), takes: []string{"c.a.import"}})
	wantEffect(t, twin(t, d, 8), abandon("a"), effect{strokes: 2, takes: []string{"c.a.import"}})
	for _, s := range []api.Step{resume("b"), abandon("b")} {
		wantEffect(t, d, s, idle(api.Answer{Code: api.ErrNoImport}))
	}
	wantDone(t, d, resume("a"))
	for _, s := range []api.Step{resume("a"), abandon("a")} {
		wantEffect(t, d, s, idle(api.Answer{Code: api.ErrNoImport}))
	}
}

func TestP19_3_SignDeltaApply(t *testing.T) {
	base, target := times(3, "crate 7 of 31, b")+"end", "new, "+times(2, "crate 7 of 31, b")
	for _, width := range []int{1, 8, 32} {
		signature, _ := delta.Sign(width, []byte(base), 16)
		form, _ := delta.Encode(signature)
		made, _ := delta.Make(signature, []byte(target))
		d := load(t, width, 100000, of("f.x", base), of("f.y", target), of("f.z", "a former one"))
		wantEffect(t, d, sign("x", 16, "s"), laying("f.s", string(form)))
		wantEffect(t, d, differ("s", "y", "t"), laying("f.t", string(made)))
		wantEffect(t, d, apply("x", "t", "z"), laying("f.z", target))
		wantEffect(t, d, apply("x", "t", "x"), laying("f.x", target)) // in the base's own place
		wantEffect(t, d, apply("x", "t", "z"), idle(api.Answer{Code: api.ErrBase}))
	}
	wide, _ := delta.Sign(32, []byte(base), 16)
	form, _ := delta.Encode(wide)
	made, _ := delta.Make(wide, []byte(target))
	d := load(t, 1, 100000, of("f.x", base), of("f.s", string(form)), of("f.y", target))
	wantEffect(t, d, differ("s", "y", "t"), laying("f.t", string(made))) // a signature has its own width
	wantEffect(t, d, apply("x", "t", "z"), laying("f.z", target))
}

func TestP19_3_VerifyAndList(t *testing.T) {
	g := stock(8)
	for _, part := range []goods{g, g.part(g.results[2]), {width: 8}} {
		for _, size := range []int{16, 64, 4096} {
			data := part.bundle(size)
			face := faceOf(data, 8)
			d := load(t, 8, 100000, of("f.x", data))
			want := idle(api.Answer{Results: face.Results, Blobs: face.Blobs})
			wantEffect(t, d, verify("x"), want)
			wantEffect(t, d, list("x"), want)
		}
	}
	// What verify refuses and list does not look at.
	data := g.bundle(16)
	face := faceOf(data, 8)
	told := api.Answer{Results: face.Results, Blobs: face.Blobs}
	d := load(t, 8, 100000, of("f.x", spoilt(data, 8, 2)), of("f.y", withID(data, 8, 1)), of("f.z", goods{8, append(g.blobs, "more"), g.results}.bundle(16)))
	wantEffect(t, d, list("x"), idle(told))
	wantEffect(t, d, verify("x"), idle(api.Answer{Code: api.ErrBlock}))
	other := face.Blobs[1].ID
	other[7] ^= 1
	told.Blobs[1].ID = other
	wantEffect(t, d, list("y"), idle(told))
	wantEffect(t, d, verify("y"), idle(said{api.ErrDigest, other}.answer()))
	wantEffect(t, d, verify("z"), idle(said{api.ErrExtra, g.id("more")}.answer()))
	if a := d.Do(list("z")); a.Code != api.OK || len(a.Blobs) != 7 {
		t.Errorf("%s", brief(a))
	}
	// A bundle of another width than the depot's is none.
	narrow := load(t, 7, 100000, of("f.x", data), of("f.y", "none"))
	for _, s := range []api.Step{verify("x"), list("x"), taking("a", "x", api.Keep), restoring("a", "x", api.Keep), verify("y"), list("y")} {
		wantEffect(t, narrow, s, idle(api.Answer{Code: api.ErrBundle}))
	}
}

// What list reads of a file is not its blocks; verify reads them all.
func TestP19_3_WhatIsRead(t *testing.T) {
	data := stock(8).bundle(16)
	d := load(t, 8, 100000, of("f.x", data))
	wantOK(t, d, list("x"))
	if reads := d.Disk().Reads(); len(reads) != 4 || len(outside(reads, "f.x", frame("f.x", data))) != 0 {
		t.Errorf("list: %v", reads)
	}
	d.Disk().Look()
	wantOK(t, d, verify("x"))
	if reads := d.Disk().Reads(); len(reads) != 1 || reads[0] != (api.Span{Name: "f.x", N: len(data)}) {
		t.Errorf("verify: %v", reads)
	}
}

func TestP19_3_WriteReadErase(t *testing.T) {
	d := begin(t, 8, api.MaxRoom)
	for _, data := range []string{"", "hi", times(4097, "m"), times(131072, "f"), "hi"} {
		wantEffect(t, d, write("x", data), laying("f.x", data))
		wantEffect(t, d, read("x"), idle(api.Answer{Data: []byte(data)}))
	}
	wantEffect(t, d, write("y", "hi"), laying("f.y", "hi"))
	wantEffect(t, d, erase("x"), effect{strokes: 2, takes: []string{"f.x"}})
	for _, s := range []api.Step{read("x"), erase("x")} {
		wantEffect(t, d, s, idle(api.Answer{Code: api.ErrNone}))
	}
	wantEffect(t, d, read("y"), idle(api.Answer{Data: []byte("hi")}))
}

func TestP19_3_Plan(t *testing.T) {
	d := load(t, 8, 1000, of("f.x", "x"))
	wantEffect(t, d, planning(api.Plan{Off: 3}), idle(api.Answer{}))
	wantEffect(t, d, planning(api.Plan{From: 2, To: 3}), idle(api.Answer{})) // in the place of the former
	wantEffect(t, d, write("y", "y"), effect{answer: api.Answer{Code: api.ErrFull}, strokes: 4})
	wantEffect(t, d, write("y", "y"), laying("f.y", "y")) // the plan's strokes are over
	wantDone(t, d, off(6))
	wantEffect(t, d, write("z", "z"), laying("f.z", "z"))
	wantCode(t, d, write("y", "new"), api.ErrOff, api.ID{})
	wantDone(t, d, crash())
	wantAnswer(t, d, read("y"), api.Answer{Data: []byte("y")})
}

// What a crash leaves is what its picks say; no + file is left, of whoever it was.
func TestP19_3_Crash(t *testing.T) {
	for _, picks := range [][]int{nil, {}, {0}, {1}, {2}, {1, 1, 1, 1, 1}, {2, 3, 3, 3, 3}, {-1, -1, -1, -1}, {7, 9, 5, 3}} {
		for at := 1; at <= 5; at++ {
			d := load(t, 8, 1000, of("f.x", "x"))
			wantDone(t, d, off(at))
			wantCode(t, d, write("y", "abc"), api.ErrOff, api.ID{})
			left := d.Disk().Twin()
			left.Crash(picks...)
			want := filed(left.Files())
			_, lies := want["+f.y"]
			delete(want, "+f.y")
			wantDone(t, d, crash(picks...))
			strokes := map[bool]int{true: 2, false: 0}[lies] // Remove, SyncNames
			if !maps.Equal(filed(d.Disk().Files()), want) || d.Disk().Strokes() != strokes || d.Disk().Off() || !sameFiles(d.Disk().Files(), d.Disk().Safe()) {
				t.Errorf("at %d, %v: %s, %d strokes, want %v and %d", at, picks, show(d.Disk().Files()), d.Disk().Strokes(), want, strokes)
			}
		}
	}
	d := load(t, 8, 1000, of("+", "1"), of("+c.a.table", "2"), of("+f.x", ""), of("++", "3"), of("f.x", "x"), of("c.a.b.+", "4"), of("a+", "5"))
	want := effect{strokes: 5, takes: []string{"+", "+c.a.table", "+f.x", "++"}}
	wantEffect(t, d, crash(), want)
	wantEffect(t, d, crash(3), effect{strokes: -5}) // there were no strokes since the crash
}

// A crash, the power being on, takes away what was not safe.
func TestP19_3_CrashWhileOn(t *testing.T) {
	d := load(t, 8, 1000, of("f.x", "x"))
	d.Disk().Append("f.x", []byte("yz"))
	d.Disk().Create("f.q")
	one, two, none := twin(t, d, 8), twin(t, d, 8), twin(t, d, 8)
	wantDone(t, none, crash())
	wantAnswer(t, none, read("x"), api.Answer{Data: []byte("x")})
	wantCode(t, none, read("q"), api.ErrNone, api.ID{})
	wantDone(t, one, crash(0, 1))
	wantAnswer(t, one, read("x"), api.Answer{Data: []byte("xy")})
	wantDone(t, two, crash(1, 0, 2))
	wantAnswer(t, two, read("x"), api.Answer{Data: []byte("xyz")})
	wantAnswer(t, two, read("q"), api.Answer{})
}

// Hand lays whatever 6's Put takes, and nothing else.
func TestP19_3_Hand(t *testing.T) {
	d := begin(t, 8, api.MaxRoom)
	id := idOf(8, crate)
	for _, to := range []string{"a", "f.x", "c.a.table", "c.a.import", blobName("a", id), "c.", "c..", ".", "-", "_", "a+", "f.+x", times(111, "h"), "f.a_b", "c.A"} {
		if strings.Contains(to, "A") {
			wantEffect(t, d, hand(to, "A"), idle(api.Answer{Code: api.ErrName}))
			continue
		}
		for _, data := range []string{"", "by hand", times(5000, "l")} {
			wantEffect(t, d, hand(to, data), laying(to, data))
		}
	}
	for _, to := range []string{"", "+", "+a", "++", times(112, "h"), times(113, "h"), "a b", "ä", "a/b", "\x00", times(1<<16, "h")} {
		wantEffect(t, d, hand(to, "x"), idle(api.Answer{Code: api.ErrName}))
	}
	wantEffect(t, d, read("x"), idle(api.Answer{Data: []byte(times(5000, "l"))}))
	wantEffect(t, d, get("a", id), idle(said{api.ErrDamage, id}.answer()))
	wantEffect(t, d, put("a", crate), idle(api.Answer{Code: api.ErrOpen}))
	wantEffect(t, d, telling("a"), idle(api.Answer{Code: api.ErrCache}))
	wantEffect(t, d, erase("x"), effect{strokes: 2, takes: []string{"f.x"}})
	wantEffect(t, d, hand(blobName("a", id), crate), laying(blobName("a", id), crate))
	wantEffect(t, d, get("a", id), idle(api.Answer{Data: []byte(crate)}))
}

// Each kind that has a cache opens it first: its + files go, and nobody else's.
func TestP19_3_Opening(t *testing.T) {
	g := stock(8)
	lying := []api.FileBytes{of("+c.a.table", "1"), of("+c.a.", ""), of("+"+blobName("a", g.id(crate)), "2"), of("+c.b.table", "3"), of("+c.ab.table", "4"), of("+c.a", "5"), of("+f.q", "6")}
	its := []string{"+c.a.table", "+c.a.", "+" + blobName("a", g.id(crate))}
	for kind := range each {
		files := append(g.files("a"), of("f.x", g.bundle(64)), of("f.y", "y"))
		s := full(kind)
		s.Result, s.ID = g.results[0], g.id(crate)
		if kind == api.StepPlan || kind == api.StepCrash {
			continue
		}
		plain := load(t, 8, api.MaxRoom, files...)
		want := plain.Do(s)
		d := load(t, 8, api.MaxRoom, append(slices.Clone(files), lying...)...)
		wantAnswer(t, d, s, want)
		strokes, left := plain.Disk().Strokes(), filed(plain.Disk().Files())
		maps.Copy(left, filed(lying))
		if strings.Contains(rowOf(kind).titles, "C") {
			strokes += 4 // three Removes, SyncNames
			for _, gone := range its {
				delete(left, gone)
			}
		}
		if !maps.Equal(filed(d.Disk().Files()), left) || d.Disk().Strokes() != strokes {
			t.Errorf("%s: %d strokes, want %d: %s", name(s), d.Disk().Strokes(), strokes, show(d.Disk().Files()))
		}
	}
}

// The power goes off while a cache is opened: that is the answer, whatever the kind
// would say.
func TestP19_3_OpeningIsCutOff(t *testing.T) {
	for kind := range each {
		if !strings.Contains(rowOf(kind).titles, "C") {
			continue
		}
		for at := 1; at <= 3; at++ {
			d := load(t, 8, 1000, of("+c.a.table", "1"), of("+c.a.import", "2"), of("f.x", "x"))
			wantDone(t, d, off(at))
			s := full(kind)
			s.Data, s.Size, s.Policy = make([]byte, 4097), 15, 9
			wantCode(t, d, s, api.ErrOff, api.ID{})
			if d.Disk().Strokes() != at || !d.Disk().Off() {
				t.Errorf("%s, off at %d: %d strokes", name(s), at, d.Disk().Strokes())
			}
			wantDone(t, d, crash(1))
			if len(d.Disk().List("+")) != 0 {
				t.Errorf("%s: %q is left", name(s), d.Disk().List("+"))
			}
		}
	}
}

// A refusal of the kind comes behind the opening: the + files have gone.
func TestP19_3_RefusedBehindTheOpening(t *testing.T) {
	for _, s := range []api.Step{put("a", times(4097, "b")), set("a", res(1, api.ID{}, 256)), export("a", "x", 15), taking("a", "x", 0), restoring("a", "q", api.Keep), resume("a"), abandon("a"), drop("a", act(1)), get("a", act(1))} {
		d := load(t, 8, 1000, of("+c.a.table", "1"), of("f.x", "x"))
		if got := d.Do(s); got.Code == api.OK || d.Disk().Strokes() != 2 || len(d.Disk().List("+")) != 0 {
			t.Errorf("%s: %s, %d strokes", name(s), brief(got), d.Disk().Strokes())
		}
	}
}

// Each step of a cache is of the depot's width.
func TestP19_3_Width(t *testing.T) {
	for _, width := range []int{1, 2, 31, 32} {
		g := stock(width)
		d := load(t, width, 100000, of("f.x", g.bundle(64)))
		wantDone(t, d, taking("a", "x", api.Fail))
		wantHolds(t, d, "a", width, g.blobs, g.results)
		wantDone(t, d, restoring("b", "x", api.Fail, act(12)))
		wantHolds(t, d, "b", width, g.part(g.results[1]).blobs, g.results[1:2])
		wantDone(t, d, export("b", "y", 64, act(12)))
		data, _ := shown(d.Disk(), "f.y")
		if face, err := bundle.Verify([]byte(data), width); err != nil || face.Width != width {
			t.Errorf("width %d: %v", width, err)
		}
		wantDone(t, d, sign("x", 16, "s"))
		form, _ := shown(d.Disk(), "f.s")
		if s, errno := delta.Decode([]byte(form)); errno != api.OK || s.Width != width {
			t.Errorf("width %d: %d", width, errno)
		}
	}
}

// outside are those that were read of a file, and have a byte beside these places.
func outside(reads []api.Span, name string, allowed []api.Span) []api.Span {
	return slices.DeleteFunc(slices.Clone(reads), func(read api.Span) bool {
		for at := read.At; read.Name == name && at < read.At+read.N; at++ {
			if !slices.ContainsFunc(allowed, func(s api.Span) bool { return s.At <= at && at < s.At+s.N }) {
				return false
			}
		}
		return true
	})
}

// frame are the trailer, the head, the entries and the index of a bundle.
func frame(name, data string) []api.Span {
	c := &cutting{data[len(data)-31:]}
	entries := api.Span{Name: name, At: c.fixed(), N: c.fixed()}
	c.fixed()
	index := api.Span{Name: name, At: c.fixed(), N: c.fixed()}
	return []api.Span{{Name: name, At: len(data) - 31, N: 31}, {Name: name, At: 0, N: 6}, entries, index}
}

// blocksOf are the packed bytes of the blocks that cover these blobs.
func blocksOf(name, data string, width int, ids []api.ID) []api.Span {
	face := faceOf(data, width)
	var spans []api.Span
	for _, place := range face.Blobs {
		if !slices.Contains(ids, place.ID) {
			continue
		}
		for _, k := range covering(face, place) {
			spans = append(spans, api.Span{Name: name, At: face.Blocks[k].At, N: face.Blocks[k].Packed})
		}
	}
	return spans
}
