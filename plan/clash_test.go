package plan_test

import (
	"fmt"
	"testing"

	"freight/api"
)

// An id that is there in the cache with other bytes, at each place among ids that
// are there, ids that are not, and damage.
func TestP15_1_AClash(t *testing.T) {
	for _, width := range []int{1, 2} {
		blobs := numbered(width, 6)
		m, need := mapOf(width, blobs...)
		for k, blob := range blobs {
			s := stored(t, width, []string{clash(width, blob)}, nil)
			for other := range blobs {
				switch {
				case other == k:
				case other%3 == 0:
					s.hand(t, blobName("a", need[other]), blobs[other])
				case other%3 == 1:
					s.damage(t, need[other], "spoilt")
				}
			}
			for _, policy := range policies() {
				what := fmt.Sprint("width ", width, ", the id ", k, ", policy ", policy)
				s.wantRefused(t, what, asked{m, nil, need, policy}, api.ErrCollision, need[k])
				s.wantRefused(t, what+", alone", asked{m, nil, need[k : k+1], policy}, api.ErrCollision, need[k])
			}
		}
	}
}

// Of several clashes the least id is named.
func TestP15_1_TheLeastClash(t *testing.T) {
	blobs := numbered(1, 6)
	m, need := mapOf(1, blobs...)
	for set := 1; set < 1<<len(blobs); set++ {
		s := stored(t, 1, nil, nil)
		first := -1
		for k := len(blobs) - 1; k >= 0; k-- {
			if set>>k&1 == 1 {
				s.hand(t, blobName("a", need[k]), clash(1, blobs[k]))
				first = k
			}
		}
		s.wantRefused(t, fmt.Sprintf("%06b", set), asked{m, nil, need, api.Take}, api.ErrCollision, need[first])
	}
}

// Bytes that begin alike, and none at all, are unlike too.
func TestP15_1_ClashesOfLikeBeginnings(t *testing.T) {
	crate := "crate 7"
	long := crate
	for i := 0; idOf(1, long) != idOf(1, crate) || long == crate; i++ {
		long = crate + fmt.Sprint(" and ", i)
	}
	for _, pair := range [][2]string{{crate, long}, {long, crate}, {"", clash(1, "")}, {clash(1, ""), ""}} {
		s := stored(t, 1, []string{pair[0]}, nil)
		m, need := mapOf(1, pair[1])
		s.wantRefused(t, fmt.Sprintf("%q and %q", pair[0], pair[1]), asked{m, nil, need, api.Keep}, api.ErrCollision, need[0])
		m, need = mapOf(1, pair[0])
		s.wantChange(t, "itself", asked{m, nil, need, api.Keep}, nil, nil)
	}
}

// A clash that is no blob of the need, and one in another cache, is none.
func TestP15_1_ClashesBeside(t *testing.T) {
	blobs := numbered(1, 3)
	m, need := mapOf(1, blobs...)
	s := stored(t, 1, []string{clash(1, blobs[1])}, nil, of(blobName("b", need[0]), clash(1, blobs[0])))
	ids := []api.ID{need[0], need[2]}
	s.wantChange(t, "beside", asked{m, nil, ids, api.Keep}, ids, nil)
}

// An id whose file is damage is not there: other bytes in it are no clash.
func TestP15_1_DamageIsNoClash(t *testing.T) {
	blobs := numbered(1, 3)
	m, need := mapOf(1, blobs...)
	for what, damage := range map[string]string{
		"other bytes":          "spoilt",
		"no bytes":             "",
		"too long":             times(api.MaxBlob+1, "x"),
		"too long, of that id": longClash(1, blobs[1], api.MaxBlob+1),
	} {
		if len(damage) <= api.MaxBlob && idOf(1, damage) == need[1] {
			t.Fatal("no damage")
		}
		s := stored(t, 1, []string{blobs[0]}, nil)
		s.damage(t, need[1], damage)
		s.wantChange(t, what, asked{m, nil, need, api.Keep}, need[1:], nil)
	}
	s := stored(t, 1, []string{longClash(1, blobs[1], api.MaxBlob)}, nil)
	s.wantRefused(t, "as long as may be", asked{m, nil, need, api.Keep}, api.ErrCollision, need[1])
}

// What the source says of a greater id stands ahead of a clash.
func TestP15_1_TheSourceAheadOfAClash(t *testing.T) {
	blobs := numbered(1, 4)
	_, need := mapOf(1, blobs...)
	s := stored(t, 1, []string{clash(1, blobs[0]), clash(1, blobs[3])}, nil)
	for _, o := range offences() {
		for k, id := range need {
			m, _ := mapOf(1, blobs...)
			f := failing{m, map[api.ID]error{}}
			if o.err != nil {
				f.errs[id] = o.err
			} else {
				m[id] = []byte(o.data)
			}
			want := o.want
			if want == api.ErrDigest && idOf(1, o.data) == id {
				want = api.ErrCollision
			}
			s.wantRefused(t, fmt.Sprint(o.want, " of ", k), asked{f, nil, need, api.Keep}, want, id)
		}
	}
}
