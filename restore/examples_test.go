package restore_test

import (
	"slices"
	"testing"

	"freight/api"
	"freight/intake"
	"freight/restore"
)

func TestExamplesPick(t *testing.T) {
	odd := []api.Result{res(1, api.ID{9}, 0), res(3, api.ID{8}, 1), res(5, api.ID{7}, 2)}
	got, err := restore.Pick(odd, acts(5, 1, 5))
	if err != nil || !slices.Equal(got, []api.Result{odd[0], odd[2]}) {
		t.Errorf("05, 01, 05: %v, %v", got, err)
	}
	got, err = restore.Pick(odd, acts(4, 2, 1))
	wantFault(t, "04, 02, 01", err, "restore.pick", "", said{api.ErrNoAction, act(2)})
	if len(got) > 0 {
		t.Errorf("04, 02, 01: %v", got)
	}
	got, err = restore.Pick([]api.Result{odd[1], odd[0]}, nil)
	wantFault(t, "03, 01", err, "restore.pick", "", said{code: api.ErrArg})
	if len(got) > 0 {
		t.Errorf("03, 01: %v", got)
	}
	if got, err = restore.Pick(nil, nil); err != nil || len(got) > 0 {
		t.Errorf("none: %v, %v", got, err)
	}
}

func TestExamplesRefused(t *testing.T) {
	g := stock(32)
	c := stored(t, 32, nil, nil, of("f.b", g.bundle(16)))
	c.wantRefused(t, "policy 0", ask{"f.b", acts(11), 0}, api.ErrArg, api.ID{})
	(&store{}).wantRefused(t, "nil", ask{"f.b", acts(11), api.Keep}, api.ErrOff, api.ID{})
	c.wantRefused(t, "f.z", ask{"f.z", acts(11), api.Keep}, api.ErrNone, api.ID{})
}

func TestExamplesNoBlockIsRead(t *testing.T) {
	g := stock(32)
	data := g.bundle(16)
	bad := turned(data, faceOf(data, 32).Blocks[2].At)
	c := stored(t, 32, nil, nil, of("f.b", bad))
	c.disk.Look()
	c.wantRefused(t, "an action that it has not", ask{"f.b", acts(10), api.Keep}, api.ErrNoAction, act(10))
	wantWithin(t, "an action that it has not", c.disk.Reads(), "f.b", frame("f.b", bad))
}

func TestExamplesNoActions(t *testing.T) {
	g := stock(32)
	c := stored(t, 32, g.blobs, g.results[2:3], of("f.b", g.bundle(16)))
	c.want(t, "no actions", ask{"f.b", nil, api.Keep}, api.OK, api.ID{})
	if c.disk.Strokes() != 7 {
		t.Errorf("%d strokes", c.disk.Strokes())
	}
	c.wantHolds(t, "no actions", g.blobs, g.results[2:3])
}

func TestExamplesOneAction(t *testing.T) {
	g := stock(32)
	c := stored(t, 32, nil, nil, of("f.b", g.bundle(16)))
	c.want(t, "one action", ask{"f.b", acts(12), api.Keep}, api.OK, api.ID{})
	c.wantHolds(t, "one action", g.part(g.results[1]).blobs, g.results[1:2])
	wantFault(t, "Resume", intake.Resume(c.cache), "intake.resume", "a", said{code: api.ErrNoImport})
	wantFault(t, "Abandon", intake.Abandon(c.cache), "intake.abandon", "a", said{code: api.ErrNoImport})
}
