package plan_test

import (
	"testing"

	"freight/api"
	"freight/reach"
)

// exampleStore is c of the chapter's examples, s, and X.
func exampleStore(t *testing.T) (*store, reach.Map, api.ID) {
	x := idOf(32, "hi")
	return stored(t, 32, nil, nil), reach.Map{x: []byte("hi")}, x
}

func TestExamplesAnEmptyCache(t *testing.T) {
	c, s, x := exampleStore(t)
	c.wantChange(t, "hi", asked{s, nil, []api.ID{x}, api.Keep}, []api.ID{x}, nil)
}

func TestExamplesArguments(t *testing.T) {
	c, s, x := exampleStore(t)
	c.wantRefused(t, "4", asked{s, nil, []api.ID{x}, 4}, api.ErrArg, api.ID{})
	c.wantRefused(t, "X, X", asked{s, nil, []api.ID{x, x}, api.Keep}, api.ErrArg, api.ID{})
	c.wantRefused(t, "nil", asked{nil, nil, nil, api.Keep}, api.ErrArg, api.ID{})
}

func TestExamplesTheSource(t *testing.T) {
	c, _, x := exampleStore(t)
	c.wantRefused(t, "an empty Map", asked{reach.Map{}, nil, []api.ID{x}, api.Keep}, api.ErrNoBlob, x)
	c.wantRefused(t, "ho", asked{reach.Map{x: []byte("ho")}, nil, []api.ID{x}, api.Keep}, api.ErrDigest, x)
}

func TestExamplesPut(t *testing.T) {
	c, s, x := exampleStore(t)
	if id, err := c.cache.Put([]byte("hi")); err != nil || id != x {
		t.Fatal(id, err)
	}
	results := []api.Result{res(1, 9, 0)}
	c.wantChange(t, "there", asked{s, results, []api.ID{x}, api.Fail}, nil, results)
}
