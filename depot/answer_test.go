package depot_test

import (
	"slices"
	"testing"

	"freight/api"
	"freight/delta"
)

// refusal is a step on a disk with these files, and how it is refused.
type refusal struct {
	files []api.FileBytes
	step  api.Step
	want  said
}

func refusals() map[string][]refusal {
	g := stock(8)
	here := func(more ...api.FileBytes) []api.FileBytes {
		return append(append(g.files("a"), of("f.x", g.bundle(64))), more...)
	}
	open := here(of("c.a.import", "open"))
	noTable := here(of("c.b.table", "\x09"))
	many := manyFiles(256)
	return map[string][]refusal{
		"put": {
			{nil, put("a", times(4097, "b")), said{code: api.ErrLong}},
			{open, put("a", crate), said{code: api.ErrOpen}},
			{blobFiles(8, "a", 128), put("a", "one more"), said{code: api.ErrBlobs}},
			{many, put("a", crate), said{code: api.ErrFiles}},
			{[]api.FileBytes{of("f.q", times(99990, "q"))}, put("a", crate), said{code: api.ErrFull}},
		},
		"set": {
			{here(), set("a", res(1, g.results[0].Root, 256)), said{code: api.ErrArg}},
			{here(), set("a", res(1, g.results[0].Root, -1)), said{code: api.ErrArg}},
			{open, set("a", g.results[0]), said{code: api.ErrOpen}},
			{noTable, set("b", g.results[0]), said{code: api.ErrCache}},
			{here(), set("a", res(1, g.id(crate), 0)), said{api.ErrNoTree, g.id(crate)}},
			{goods{8, append(chain(8, 7, crate), crate), nil}.files("a"), set("a", res(1, g.id(chain(8, 7, crate)[6]), 0)), said{api.ErrDeep, g.id(chain(8, 7, crate)[0])}},
			{here(), set("a", res(1, act(77), 0)), said{api.ErrMissing, act(77)}},
			{fullTable(8), set("a", res(99, idOf(8, emptyTree), 0)), said{code: api.ErrActions}},
		},
		"drop": {
			{open, drop("a", g.id(crate)), said{code: api.ErrOpen}},
			{here(), drop("a", act(77)), said{api.ErrNoBlob, act(77)}},
			{here(), drop("b", g.id(crate)), said{api.ErrNoBlob, g.id(crate)}},
		},
		"get": {
			{here(), get("a", act(77)), said{api.ErrNoBlob, act(77)}},
			{here(), get("a", api.ID{31: 1}), said{api.ErrNoBlob, api.ID{31: 1}}},
			{here(of(blobName("b", g.id(crate)), "damage")), get("b", g.id(crate)), said{api.ErrDamage, g.id(crate)}},
		},
		"cache": {{noTable, telling("b"), said{code: api.ErrCache}}},
		"export": {
			{here(), export("a", "x", 15), said{code: api.ErrArg}},
			{here(), export("a", "x", 4097, act(99)), said{code: api.ErrArg}},
			{noTable, export("b", "x", 64, act(99)), said{code: api.ErrCache}},
			{here(), export("a", "x", 64, acts(11, 99, 98)...), said{api.ErrNoAction, act(98)}},
			{here(of(blobName("a", g.id("other")), "damage"), of("c.b.table", tableForm(g.results))), export("b", "x", 64, act(12)), said{api.ErrMissing, g.results[1].Root}},
			{wide(8, 65), export("a", "x", 64, act(1), act(2), act(3)), said{code: api.ErrMany}},
			{long(8), export("a", "x", 64, act(1)), said{code: api.ErrBundleLong}},
			{append(here(), of("f.q", times(95000, "q"))), export("a", "y", 16, acts(11, 12, 13)...), said{code: api.ErrFull}},
		},
		"import": {
			{here(), taking("a", "x", 0), said{code: api.ErrArg}},
			{open, taking("a", "x", api.Keep), said{code: api.ErrOpen}},
			{here(), taking("a", "y", api.Keep), said{code: api.ErrNone}},
			{here(of("f.y", "none")), taking("a", "y", api.Keep), said{code: api.ErrBundle}},
			{here(of("f.y", spoilt(g.bundle(16), 8, 0))), taking("a", "y", api.Keep), said{code: api.ErrBlock}},
			{here(of("f.y", goods{8, []string{crate}, nil}.bundle(16))), taking("a", "y", api.Keep), said{api.ErrExtra, g.id(crate)}},
			{noTable, taking("b", "x", api.Keep), said{code: api.ErrCache}},
			{here(of("c.b.table", tableForm([]api.Result{res(12, act(77), 0), res(13, act(77), 0)}))), taking("b", "x", api.Fail), said{api.ErrConflict, act(12)}},
			{here(of("c.b.table", tableForm(resultsFrom(100, 30, act(77))))), taking("b", "x", api.Keep), said{code: api.ErrActions}},
			{append(blobFiles(8, "b", 123), of("f.x", g.bundle(64))), taking("b", "x", api.Keep), said{code: api.ErrBlobs}},
			{append(manyFiles(255), of("f.x", g.bundle(64))), taking("b", "x", api.Keep), said{code: api.ErrFiles}},
			{append(manyFiles(253), of("f.x", g.bundle(64))), taking("b", "x", api.Keep), said{api.ErrFiles, g.ids()[1]}},
		},
		"resume": {
			{here(), resume("a"), said{code: api.ErrNoImport}},
			{open, resume("a"), said{code: api.ErrJournal}},
			{here(of("c.b.import", journalForm(api.Journal{Bundle: "f.x"}))), resume("b"), said{code: api.ErrOther}},
			{here(of("c.b.import", journalForm(journalOf(g, "f.x", act(77))))), resume("b"), said{api.ErrOther, act(77)}},
		},
		"abandon": {{here(), abandon("a"), said{code: api.ErrNoImport}}},
		"restore": {
			{here(), restoring("a", "x", 4), said{code: api.ErrArg}},
			{open, restoring("a", "x", api.Keep), said{code: api.ErrOpen}},
			{here(), restoring("a", "y", api.Keep), said{code: api.ErrNone}},
			{here(of("f.y", "none")), restoring("a", "y", api.Keep), said{code: api.ErrBundle}},
			{here(), restoring("a", "x", api.Keep, acts(99, 11, 98)...), said{api.ErrNoAction, act(98)}},
			{here(of("f.y", goods{8, nil, g.results[:1]}.bundle(16))), restoring("a", "y", api.Keep, act(11)), said{api.ErrMissing, g.results[0].Root}},
			{here(of("f.y", spoilt(goods{8, []string{emptyTree}, []api.Result{res(1, g.id(emptyTree), 0)}}.bundle(16), 8, 0))), restoring("a", "y", api.Keep, act(1)), said{api.ErrBlock, g.id(emptyTree)}},
			{here(of("c.b.table", tableForm([]api.Result{res(12, act(77), 0)}))), restoring("b", "x", api.Fail, act(12)), said{api.ErrConflict, act(12)}},
		},
		"sign": {
			{here(), sign("y", 16, "s"), said{code: api.ErrNone}},
			{here(), sign("x", 15, "s"), said{code: api.ErrArg}},
			{[]api.FileBytes{of("f.y", times(32784, "y"))}, sign("y", 16, "s"), said{code: api.ErrParts}},
			{[]api.FileBytes{of("f.y", times(131073, "y"))}, sign("y", 4096, "s"), said{code: api.ErrLong}},
		},
		"delta": {
			{here(), differ("y", "x", "t"), said{code: api.ErrNone}},
			{here(), differ("x", "y", "t"), said{code: api.ErrDelta}},
			{here(of("f.s", signatureOf(8, "base"))), differ("s", "y", "t"), said{code: api.ErrNone}},
			{here(of("f.s", signatureOf(8, "base")), of("f.y", times(131073, "y"))), differ("s", "y", "t"), said{code: api.ErrLong}},
		},
		"apply": {
			{here(), apply("y", "x", "t"), said{code: api.ErrNone}},
			{here(), apply("x", "y", "t"), said{code: api.ErrNone}},
			{here(), apply("x", "x", "t"), said{code: api.ErrDelta}},
			{[]api.FileBytes{of("f.y", times(131073, "y")), of("f.x", "x")}, apply("y", "x", "t"), said{code: api.ErrLong}},
			{here(of("f.t", deltaOf(8, "base", "target"))), apply("x", "t", "z"), said{code: api.ErrBase}},
			{here(of("f.t", deltaOf(8, "base", "target")), of("f.y", "bass")), apply("y", "t", "z"), said{code: api.ErrBase}},
			{here(of("f.y", clashBase()), of("f.t", deltaOf(1, clashBase(), clashTarget()))), apply("y", "t", "z"), said{code: api.ErrTarget}},
		},
		"verify": {
			{here(), verify("y"), said{code: api.ErrNone}},
			{here(of("f.y", turned(g.bundle(64), len(g.bundle(64))-40))), verify("y"), said{code: api.ErrSum}},
			{here(of("f.y", times(131073, "y"))), verify("y"), said{code: api.ErrBundleLong}},
			{here(of("f.y", goods{8, nil, g.results[:1]}.bundle(16))), verify("y"), said{api.ErrMissing, g.results[0].Root}},
		},
		"list": {
			{here(), list("y"), said{code: api.ErrNone}},
			{here(of("f.y", "y")), list("y"), said{code: api.ErrBundle}},
			{here(of("f.y", times(131073, "y"))), list("y"), said{code: api.ErrBundleLong}},
		},
		"write": {
			{nil, write("x", times(131073, "x")), said{code: api.ErrLong}},
			{[]api.FileBytes{of("f.q", times(131072, "q")), of("f.r", times(65536, "r"))}, write("x", times(3393, "x")), said{code: api.ErrFull}},
			{many, write("x", ""), said{code: api.ErrFiles}},
		},
		"read":  {{here(), read("y"), said{code: api.ErrNone}}},
		"erase": {{here(), erase("y"), said{code: api.ErrNone}}},
		"hand":  {{nil, hand("+x", ""), said{code: api.ErrName}}, {many, hand("x", ""), said{code: api.ErrFiles}}},
	}
}

// roomOf is a room in which the files of a refusal lie; where it is for room there is
// none for what comes.
func roomOf(r refusal) int {
	used := 0
	for _, f := range r.files {
		used += len(f.Data)
	}
	if r.want.code == api.ErrFull {
		return max(used+10, 1)
	}
	return max(used+100000, 1)
}

// blobFiles are n blobs of a cache.
func blobFiles(width int, name string, n int) []api.FileBytes {
	var files []api.FileBytes
	for _, b := range strangers(width, n) {
		files = append(files, of(blobName(name, idOf(width, b)), b))
	}
	return files
}

// fullTable is a cache a of as many results as there may be.
func fullTable(width int) []api.FileBytes {
	return goods{width, []string{emptyTree}, resultsFrom(1, 32, idOf(width, emptyTree))}.files("a")
}

// wide is a cache a of three results that need n ids together.
func wide(width, n int) []api.FileBytes {
	blobs := strangers(width, n-3)
	g := goods{width: width, blobs: blobs}
	for k := range 3 {
		root := filesTree(width, blobs[k*len(blobs)/3:(k+1)*len(blobs)/3]...)
		g.blobs = append(g.blobs, root)
		g.results = append(g.results, res(byte(k+1), idOf(width, root), 0))
	}
	return g.files("a")
}

// long is a cache a of a result whose blobs have more bytes than a bundle's row.
func long(width int) []api.FileBytes {
	var blobs []string
	for k := range 16 {
		blobs = append(blobs, times(4096, string(rune('a'+k))))
	}
	root := filesTree(width, blobs...)
	return goods{width, append(blobs, root), []api.Result{res(1, idOf(width, root), 0)}}.files("a")
}

// journalOf is that of an import of the goods' bundle, which needs that id too.
func journalOf(g goods, file string, more api.ID) api.Journal {
	face := faceOf(g.bundle(64), g.width)
	return api.Journal{Bundle: file, Entries: face.Entries, Index: face.Index, Need: []api.ID{more}}
}

func signatureOf(width int, base string) string {
	s, _ := delta.Sign(width, []byte(base), 16)
	form, _ := delta.Encode(s)
	return string(form)
}

func deltaOf(width int, base, target string) string {
	s, _ := delta.Sign(width, []byte(base), 16)
	data, _ := delta.Make(s, []byte(target))
	return string(data)
}

// clashBase and clashTarget are a row and a target of which one block and one window
// are unlike, and have one sum and, of width 1, one id.
func clashBase() string { return clashRows()[0] }

func clashTarget() string { return clashRows()[1] }

func clashRows() []string {
	sum := func(row string) (int, api.ID) {
		s, _ := delta.Sign(1, []byte(row), 16)
		return s.Blocks[0].Sum, s.Blocks[0].ID
	}
	type key struct {
		sum int
		id  api.ID
	}
	seen := map[key]string{}
	// Rows of the same few bytes moved about have one sum now and then.
	r := noise()
	for {
		row := []byte("0000000000000000")
		for range 6 {
			row[r.IntN(16)] = '1'
		}
		weak, id := sum(string(row))
		if first, is := seen[key{weak, id}]; is && first != string(row) {
			if idOf(1, first+"end") != idOf(1, string(row)+"end") {
				return []string{first + "end", string(row) + "end"}
			}
		}
		seen[key{weak, id}] = string(row)
	}
}

// Each kind that can be refused, in its ways: the number and the id, and nothing else.
func TestP19_4_Refused(t *testing.T) {
	for kind, list := range refusals() {
		for _, r := range list {
			if rowOf(r.step.Kind).name != kind {
				t.Fatalf("%s: %s", kind, name(r.step))
			}
			d := load(t, 8, roomOf(r), r.files...)
			before := d.Disk().Twin()
			wantCode(t, d, r.step, r.want.code, r.want.id)
			if code := r.want.code; code != api.ErrFull && code != api.ErrFiles {
				wantSameDisk(t, name(r.step), d.Disk(), before)
			}
			w := words{before, 8}
			if want := w.do(r.step); !sameAnswer(want, r.want.answer()) {
				t.Errorf("%s: the words say %s, want %v", name(r.step), brief(want), r.want)
			}
			wantSameDisk(t, name(r.step), d.Disk(), w.disk)
		}
	}
}

// A clash tells its id.
func TestP19_4_Clash(t *testing.T) {
	g := stock(1)
	other := clash(1, crate)
	d := load(t, 1, 100000, append(g.files("a"), of("f.x", g.bundle(64)), of(blobName("b", g.id(crate)), other))...)
	wantRefused(t, d, put("a", other), api.ErrCollision, g.id(crate))
	wantRefused(t, d, taking("b", "x", api.Keep), api.ErrCollision, g.id(crate))
	wantRefused(t, d, restoring("b", "x", api.Keep, act(13)), api.ErrCollision, g.id(crate))
	wantDone(t, d, restoring("b", "x", api.Keep, act(12)))
}

// The power goes off at each stroke of each kind of step that has one: ErrOff, and
// nothing else, not even what was told of ids.
func TestP19_4_Off(t *testing.T) {
	for what, x := range scenes() {
		d := x.load(t)
		strokes := x.strokes(t)
		for at := 1; at <= strokes; at++ {
			d = x.load(t)
			wantDone(t, d, off(at))
			if got := d.Do(x.step); !sameAnswer(got, api.Answer{Code: api.ErrOff}) {
				t.Errorf("%s, off at %d: %s", what, at, brief(got))
			}
		}
		d = x.load(t)
		wantDone(t, d, off(strokes+1))
		if got := d.Do(x.step); got.Code != api.OK {
			t.Errorf("%s: %s", what, brief(got))
		}
	}
}

// With OK just what the table says is told: each kind's own fields, and no others.
func TestP19_4_Told(t *testing.T) {
	for what, x := range scenes() {
		got := x.load(t).Do(x.step)
		if got.Code != api.OK {
			t.Fatalf("%s: %s", what, brief(got))
		}
		tells := map[int]string{api.StepPut: "I", api.StepGet: "D", api.StepCache: "LR", api.StepVerify: "RB", api.StepList: "RB", api.StepRead: "D"}[x.step.Kind]
		for letter, is := range map[rune]bool{'I': got.ID != api.ID{}, 'D': len(got.Data) > 0, 'L': len(got.IDs) > 0, 'R': len(got.Results) > 0, 'B': len(got.Blobs) > 0} {
			if is != slices.Contains([]rune(tells), letter) {
				t.Errorf("%s: %s", what, brief(got))
			}
		}
	}
}
