package export_test

import (
	"bytes"
	"slices"
	"testing"

	"freight/api"
	"freight/bundle"
	"freight/export"
	"freight/file"
)

// exampleStores are c of the chapter's examples: the roots of r1 and r2 are two
// trees of the same file, or one tree.
func exampleStores(t *testing.T) (two, one *store) {
	first := filesTree(32, crate)
	second := treeOf(aRun(idOf(32, crate)))
	g := goods{32, []string{crate, first, second}, []api.Result{res(1, idOf(32, first), 0), res(2, idOf(32, second), 0)}}
	two = stored(t, g)
	g.results[1].Root = idOf(32, first)
	one = stored(t, g)
	return two, one
}

func TestExamplesNil(t *testing.T) {
	data, err := export.Build(nil, nil, 15)
	wantFault(t, "15", err, "export.build", "", api.ErrArg, api.ID{})
	more, err := export.Build(nil, nil, 16)
	wantFault(t, "16", err, "export.build", "", api.ErrOff, api.ID{})
	if data != nil || more != nil {
		t.Error("bytes beside an error")
	}
}

func TestExamplesAnActionThatLacks(t *testing.T) {
	c, _ := exampleStores(t)
	c.wantRefused(t, "r1 and another", acts(1, 9), 64, api.ErrNoAction, act(9))
}

func TestExamplesBuild(t *testing.T) {
	two, one := exampleStores(t)
	for _, x := range []struct {
		store *store
		blobs int
	}{{two, 3}, {one, 2}} {
		face, err := bundle.Verify(x.store.mustBuild(t, acts(2, 1, 1), 64), 32)
		table, _ := x.store.cache.Table()
		if err != nil || !slices.Equal(face.Results, table) || len(table) != 2 || len(face.Blobs) != x.blobs {
			t.Errorf("%v, %v, want %d blobs", face, err, x.blobs)
		}
	}
}

func TestExamplesOfNothing(t *testing.T) {
	c, _ := exampleStores(t)
	want, err := bundle.Make(32, nil, nil, 64)
	if got := c.mustBuild(t, nil, 64); err != nil || !bytes.Equal(got, want) {
		t.Errorf("%x, want %x", got, want)
	}
}

func TestExamplesTheFilesBlob(t *testing.T) {
	id := idOf(32, crate)
	c, _ := exampleStores(t)
	if err := c.cache.Drop(id); err != nil {
		t.Fatal(err)
	}
	c.wantRefused(t, "dropped", acts(1), 64, api.ErrMissing, id)
	c, _ = exampleStores(t)
	c.damage(t, id, "crate 8 of 31, bay 2")
	c.wantRefused(t, "damage", acts(1), 64, api.ErrMissing, id)
}

func TestExamplesExport(t *testing.T) {
	c, _ := exampleStores(t)
	wantFault(t, "+x", export.Export(c.cache, acts(1), 64, "+x"), "export.export", "a", api.ErrName, api.ID{})
	wantFault(t, "x", export.Export(c.cache, acts(1), 64, "x"), "export.export", "a", api.OK, api.ID{})
	if got, err := file.Get(c.disk, "x"); err != nil || !bytes.Equal(got, c.mustBuild(t, acts(1), 64)) {
		t.Errorf("the file x: %d bytes, %v", len(got), err)
	}
}

func TestExamplesAFullDisk(t *testing.T) {
	c, _ := exampleStores(t)
	for _, before := range [][]api.FileBytes{nil, {of("x", "as it was")}} {
		files := slices.Concat(c.disk.Files(), before)
		used := c.disk.Used()
		for _, f := range before {
			used += len(f.Data)
		}
		full := opened(t, mustLoad(t, used, files...), "a", 32)
		wantFault(t, "full", export.Export(full.cache, acts(1), 64, "x"), "export.export", "a", api.ErrFull, api.ID{})
		if !sameFiles(full.disk.Files(), files) || !sameFiles(full.disk.Safe(), files) {
			t.Errorf("%s, want %s", show(full.disk.Files()), show(files))
		}
	}
}
