package depot_test

import (
	"testing"

	"freight/api"
	"freight/depot"
)

// scene is a step that is OK on a depot of width 8 on which all is safe.
type scene struct {
	files []api.FileBytes
	step  api.Step
}

func (x scene) load(t testing.TB) *depot.Depot {
	t.Helper()
	return load(t, 8, api.MaxRoom, x.files...)
}

// strokes is how many its step has.
func (x scene) strokes(t testing.TB) int {
	t.Helper()
	d := x.load(t)
	wantOK(t, d, x.step)
	return d.Disk().Strokes()
}

// scenes are steps of each kind but plan and crash, with much to do and with little.
func scenes() map[string]scene {
	g := stock(8)
	own, changed := res(1, g.results[2].Root, 9), g.results[1]
	changed.Code = 3
	blobs := []string{g.blobs[5], crate, "own"}
	mixed := append(goods{8, blobs, []api.Result{own, changed}}.files("a"), of("f.x", g.bundle(64)), of("f.y", times(4, "crate 7 of 31, b")+"y"), of("f.q", "q"))
	full := append(g.files("a"), of("f.x", g.bundle(64)), of("f.s", signatureOf(8, "base of some sixteen bytes or more")), of("f.y", "y"), of("f.t", deltaOf(8, "y", "target")))
	lying := append(full[:len(full):len(full)], of("+c.a.table", "1"), of("+c.a.import", "2"))
	open := append(goods{8, blobs, []api.Result{own, changed}}.files("a"), of("f.x", g.bundle(64)), of("c.a.import", journalForm(wholeJournal(g, own))))
	return map[string]scene{
		"put":                  {full, put("a", "new")},
		"put, first":           {nil, put("a", "new")},
		"put, opening":         {lying, put("a", "new")},
		"set":                  {full, set("a", changed)},
		"set, another":         {full, set("a", own)},
		"drop":                 {full, drop("a", g.id(crate))},
		"drop, opening":        {lying, drop("a", g.id(crate))},
		"get":                  {full, get("a", g.id(crate))},
		"get, opening":         {lying, get("a", g.id(crate))},
		"cache":                {full, telling("a")},
		"cache, opening":       {lying, telling("a")},
		"export":               {full, export("a", "z", 64, acts(11, 12)...)},
		"export, in its place": {lying, export("a", "x", 16, acts(13)...)},
		"import, empty":        {full, taking("b", "x", api.Fail)},
		"import, mixed":        {mixed, taking("a", "x", api.Take)},
		"import, Keep":         {mixed, taking("a", "x", api.Keep)},
		"import, nothing new":  {lying, taking("a", "x", api.Fail)},
		"resume":               {open, resume("a")},
		"abandon":              {open, abandon("a")},
		"restore":              {full, restoring("b", "x", api.Fail, acts(12, 13)...)},
		"restore, mixed":       {mixed, restoring("a", "x", api.Take, acts(11, 12)...)},
		"sign":                 {full, sign("x", 16, "z")},
		"sign, in its place":   {full, sign("x", 64, "x")},
		"delta":                {full, differ("s", "y", "z")},
		"apply":                {full, apply("y", "t", "z")},
		"apply, in its place":  {full, apply("y", "t", "y")},
		"verify":               {full, verify("x")},
		"list":                 {full, list("x")},
		"write":                {full, write("z", "new")},
		"write, in its place":  {full, write("x", "new")},
		"read":                 {full, read("x")},
		"erase":                {full, erase("x")},
		"hand":                 {full, hand("c.a.import", "by hand")},
		"hand, in its place":   {full, hand("c.a.table", "by hand")},
	}
}

// wholeJournal is that of an import of the goods' bundle in f.x into a cache with
// that result.
func wholeJournal(g goods, own api.Result) api.Journal {
	face := faceOf(g.bundle(64), g.width)
	return api.Journal{Bundle: "f.x", Entries: face.Entries, Index: face.Index, Results: g.results, Need: g.ids(), Table: append([]api.Result{own}, g.results...)}
}
