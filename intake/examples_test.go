package intake_test

import (
	"testing"

	"freight/api"
	"freight/intake"
)

// exampleStore is c of the chapter's examples, with the bundle in f.x; and (A, R,
// 0).
func exampleStore(t *testing.T) (*store, api.Result) {
	one := res(1, idOf(32, treeOf()), 0)
	return shelved(t, goods{32, []string{treeOf()}, []api.Result{one}}, nil, nil), one
}

func TestExamplesRefused(t *testing.T) {
	c, _ := exampleStore(t)
	c.wantRefused(t, "f.y", importing("f.y", api.Keep), api.ErrNone, api.ID{})
	c.wantRefused(t, "policy 0", importing("f.x", 0), api.ErrArg, api.ID{})
	c.wantRefused(t, "F", importing("F", api.Keep), api.ErrName, api.ID{})
}

func TestExamplesImport(t *testing.T) {
	c, one := exampleStore(t)
	c.want(t, "Keep", importing("f.x", api.Keep), api.OK, api.ID{})
	c.wantHolds(t, "behind it", []string{treeOf()}, []api.Result{one})
	c.wantRefused(t, "Resume", resuming(), api.ErrNoImport, api.ID{})
	c.wantRefused(t, "Abandon", abandoning(), api.ErrNoImport, api.ID{})
	c.wantNoJournal(t, "Journal", api.ErrNoImport)
	before := c.disk.Strokes()
	c.want(t, "Fail", importing("f.x", api.Fail), api.OK, api.ID{})
	if got := c.disk.Strokes() - before; got != 7 {
		t.Errorf("%d strokes, want 7", got)
	}
	c.wantHolds(t, "behind both", []string{treeOf()}, []api.Result{one})
}

func TestExamplesForms(t *testing.T) {
	wantNoForm(t, "no bytes", "")
	_, err := intake.Encode(api.Journal{})
	wantFault(t, "the zero journal", err, "intake.encode", "", api.ErrJournal, api.ID{})
}
