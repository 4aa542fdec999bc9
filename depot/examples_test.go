package depot_test

import (
	"testing"

	"freight/api"
)

// The rows of chapter 19's Examples.
func TestExamples(t *testing.T) {
	d := begin(t, 32, 100000)
	x, e, a := idOf(32, "hi"), idOf(32, emptyTree), act(5)
	wantCode(t, d, api.Step{}, api.ErrStep, api.ID{})
	wantCode(t, d, put("a.b", "hi"), api.ErrName, api.ID{})
	wantAnswer(t, d, put("a", "hi"), api.Answer{ID: x})

	wantAnswer(t, d, get("a", x), api.Answer{Data: []byte("hi")})
	wantCode(t, d, get("a", e), api.ErrNoBlob, e)
	wantAnswer(t, d, telling("a"), api.Answer{IDs: []api.ID{x}})

	r := api.Result{Action: a, Root: e}
	wantCode(t, d, set("a", r), api.ErrMissing, e)
	wantAnswer(t, d, put("a", emptyTree), api.Answer{ID: e})
	wantDone(t, d, set("a", r))

	wantDone(t, d, export("a", "x", 64, a))
	held := api.Answer{Results: []api.Result{r}, Blobs: []api.Place{{ID: e, At: 0, N: 2}}}
	wantAnswer(t, d, list("x"), held)
	wantAnswer(t, d, verify("x"), held)

	wantCode(t, d, export("a", "x", 64, e), api.ErrNoAction, e)
	wantCode(t, d, export("a", "x", 15), api.ErrArg, api.ID{})

	wantDone(t, d, taking("b", "x", api.Fail))
	wantAnswer(t, d, telling("b"), api.Answer{IDs: []api.ID{e}, Results: []api.Result{r}})

	wantDone(t, d, write("y", "hi"))
	wantDone(t, d, sign("y", 16, "s"))
	wantDone(t, d, differ("s", "y", "t"))
	wantDone(t, d, apply("y", "t", "z"))
	wantAnswer(t, d, read("z"), api.Answer{Data: []byte("hi")})

	wantCode(t, d, verify("y"), api.ErrBundle, api.ID{})

	wantDone(t, d, off(1))
	wantCode(t, d, put("a", "ho"), api.ErrOff, api.ID{})
	wantCode(t, d, get("a", x), api.ErrOff, api.ID{})
	wantDone(t, d, crash())
	wantAnswer(t, d, get("a", x), api.Answer{Data: []byte("hi")})

	wantCaches(t, "caches", d.Caches(), "a", "b")
}
