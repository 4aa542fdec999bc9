package plan_test

import (
	"errors"
	"fmt"
	"slices"
	"testing"

	"freight/api"
	"freight/reach"
)

const wrongWidth = 2

// order is what is asked, of which cache.
type order struct {
	asked
	source  failing
	blobs   []string // of the cache
	ours    []api.Result
	badFile bool
	off     bool
}

// wrongBlobs are the source's, by rising ids: each of the wrongs that are said of
// an id has its own.
func wrongBlobs() []string { return numbered(wrongWidth, 8) }

// newOrder is refused by nothing: the cache has two of the need's blobs, and a
// result that is unlike.
func newOrder() *order {
	blobs := wrongBlobs()
	m, need := mapOf(wrongWidth, blobs...)
	o := &order{source: failing{m, map[api.ID]error{}}, blobs: blobs[:2], ours: []api.Result{res(9, 1, 1)}}
	o.asked = asked{nil, []api.Result{res(9, 2, 2), res(20, 1, 1)}, need, api.Take}
	return o
}

// say makes the source say other bytes of an id.
func (o *order) say(k int, data string) { o.source.inner.(reach.Map)[o.need[k]] = []byte(data) }

// wrong is one thing that P15.1 refuses, with the id that it is said of; those of
// one rank are told by their ids.
type wrong struct {
	want  api.Errno
	rank  int
	at    int // of the need, from 0 on
	id    api.ID
	spoil func(o *order)
}

// wrongs are all of them, in the order of the list. The three of the source stand
// at the ids 3 to 5 of the need, turned round by turn, behind the clashes.
func wrongs(turn int) []wrong {
	blobs := wrongBlobs()
	_, need := mapOf(wrongWidth, blobs...)
	at := func(k int) int { return 3 + (k+turn)%3 }
	clashing := []string{blobs[0], clash(wrongWidth, blobs[1]), clash(wrongWidth, blobs[7])}
	others := numbered(wrongWidth, 200)
	return []wrong{
		{want: api.ErrArg, rank: 1, spoil: func(o *order) { o.policy = 4 }},
		{want: api.ErrOff, rank: 2, spoil: func(o *order) { o.off = true }},
		{want: api.ErrCache, rank: 3, spoil: func(o *order) { o.badFile = true }},
		{want: api.ErrMissing, rank: 4, at: at(0), id: need[at(0)], spoil: func(o *order) { o.source.errs[o.need[at(0)]] = errors.New("no line") }},
		{want: api.ErrLong, rank: 4, at: at(1), id: need[at(1)], spoil: func(o *order) { o.say(at(1), times(api.MaxBlob+1, "x")) }},
		{want: api.ErrDigest, rank: 4, at: at(2), id: need[at(2)], spoil: func(o *order) { o.say(at(2), "of another id") }},
		{want: api.ErrCollision, rank: 5, id: need[1], spoil: func(o *order) { o.blobs = slices.Clone(clashing) }},
		{want: api.ErrConflict, rank: 6, id: act(9), spoil: func(o *order) {
			if o.policy != 4 {
				o.policy = api.Fail
			}
		}},
		{want: api.ErrActions, rank: 7, spoil: func(o *order) { o.ours = resultsFrom(9, api.MaxActions); o.results[1].Action = act(200) }},
		{want: api.ErrBlobs, rank: 8, spoil: func(o *order) {
			have := idsOf(wrongWidth, append(slices.Clone(blobs), o.blobs...)...)
			for _, b := range others {
				if len(o.blobs) < api.MaxBlobs && !slices.Contains(have, idOf(wrongWidth, b)) {
					o.blobs = append(o.blobs, b)
				}
			}
		}},
	}
}

// ordered is the cache of an order.
func ordered(t *testing.T, o *order) *store {
	t.Helper()
	o.asked.source = o.source
	s := stored(t, wrongWidth, o.blobs, o.ours)
	if o.badFile {
		s.hand(t, "c.a.table", "no table")
	}
	if o.off {
		s.darken(t)
	}
	return s
}

// before tells which of two wrongs is told.
func (w wrong) before(other wrong) bool {
	return other.want == api.OK || w.rank < other.rank || w.rank == other.rank && w.at < other.at
}

// All sets of what can be wrong: the one that stands first is told, and the words
// say the same.
func TestP15_1_TheFirstThatIsWrong(t *testing.T) {
	for turn := range 3 {
		list := wrongs(turn)
		for set := range 1 << len(list) {
			o := newOrder()
			what := fmt.Sprint("turn ", turn, ", wrong:")
			first := wrong{}
			for k, w := range list {
				if set>>k&1 == 0 {
					continue
				}
				w.spoil(o)
				what += fmt.Sprint(" ", w.want)
				if w.before(first) {
					first = w
				}
			}
			s := ordered(t, o)
			if got := s.wantAsTheWordsSay(t, what, o.asked); got != first.want {
				t.Fatalf("%s: the words say %d", what, got)
			}
			if first.want != api.OK {
				s.wantRefused(t, what, o.asked, first.want, first.id)
			}
		}
	}
}
