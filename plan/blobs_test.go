package plan_test

import (
	"fmt"
	"slices"
	"testing"

	"freight/api"
)

// Files of blobs and new ids of together MaxBlobs, and of one more.
func TestP15_1_Blobs(t *testing.T) {
	all := numbered(32, api.MaxBlobs+1)
	for _, files := range []int{0, 1, 64, api.MaxBlobs - 1, api.MaxBlobs} {
		s := stored(t, 32, all[:files], nil)
		m, need := mapOf(32, all...)
		most := need[:api.MaxBlobs]
		what := fmt.Sprint(files, " files")
		for _, policy := range policies() {
			s.wantChange(t, what, asked{m, nil, most[files:], policy}, most[files:], nil)
			s.wantChange(t, what+", all of them of the need", asked{m, nil, most, policy}, most[files:], nil)
			s.wantRefused(t, what+", one more", asked{m, nil, need[files:], policy}, api.ErrBlobs, api.ID{})
			s.wantRefused(t, what+", one more, all of the need", asked{m, nil, need, policy}, api.ErrBlobs, api.ID{})
		}
	}
}

// Damage is a file: it counts among the cache's, and an id of need of which there
// is damage is none that makes a file.
func TestP15_1_BlobsAndDamage(t *testing.T) {
	all := numbered(32, api.MaxBlobs+1)
	m, need := mapOf(32, all...)
	s := stored(t, 32, all[:api.MaxBlobs-2], nil)
	s.damage(t, need[5], "spoilt")
	s.damage(t, need[9], times(api.MaxBlob+1, "x"))
	s.damage(t, api.ID{200, 31: 1}, "no blob of the need")
	s.wantRefused(t, "two more", asked{m, nil, need[api.MaxBlobs-2 : api.MaxBlobs], api.Keep}, api.ErrBlobs, api.ID{})
	s.wantChange(t, "one more", asked{m, nil, need[api.MaxBlobs : api.MaxBlobs+1], api.Keep}, need[api.MaxBlobs:], nil)
	again := slices.Concat(need[:10], need[api.MaxBlobs:])
	adds := []api.ID{need[5], need[9], need[api.MaxBlobs]}
	s.wantChange(t, "one more, and damage", asked{m, nil, again, api.Keep}, adds, nil)
	s.damage(t, need[api.MaxBlobs], "spoilt")
	s.wantChange(t, "full, damage alone", asked{m, nil, again, api.Keep}, adds, nil)
	s.wantRefused(t, "full, damage and one more", asked{m, nil, append(again[:10:10], need[api.MaxBlobs-1], need[api.MaxBlobs]), api.Keep}, api.ErrBlobs, api.ID{})
}

// A cache that has too many files already: nothing is refused where no file comes.
func TestP15_1_TooManyFilesAlready(t *testing.T) {
	all := numbered(32, api.MaxBlobs+12)
	m, need := mapOf(32, all...)
	s := stored(t, 32, all[:api.MaxBlobs+10], nil)
	s.wantChange(t, "no need", asked{m, nil, nil, api.Keep}, nil, nil)
	s.wantChange(t, "all there", asked{m, nil, need[:api.MaxBlobs+10], api.Keep}, nil, nil)
	s.wantRefused(t, "one more", asked{m, nil, need[api.MaxBlobs+9 : api.MaxBlobs+11], api.Keep}, api.ErrBlobs, api.ID{})
	s.damage(t, need[3], "spoilt")
	s.wantChange(t, "damage", asked{m, nil, need[:8], api.Keep}, need[3:4], nil)
}

// Files that are none of this cache's blobs do not count: a name that is no id, an
// id of another width, another cache's, a draft, the table, an open import.
func TestP15_1_FilesThatAreNoBlobs(t *testing.T) {
	all := numbered(8, api.MaxBlobs)
	m, need := mapOf(8, all...)
	s := stored(t, 8, all[:api.MaxBlobs-1], nil,
		of("c.a.b.zz", "x"), of("c.a.b.", "x"), of(blobName("a", idOf(32, "wide")), "wide"), of(blobName("a", need[0])+"0", "x"),
		of(blobName("b", need[1]), all[1]), of("c.a.table", "\x00"), of("c.a.import", ""), of("f.a", "x"))
	s.hand(t, "+"+blobName("a", need[127]), all[127])
	s.wantChange(t, "one more", asked{m, nil, need, api.Keep}, need[127:], nil)
	s.hand(t, blobName("a", api.ID{200, 7: 1}), "damage")
	s.wantRefused(t, "damage that counts", asked{m, nil, need, api.Keep}, api.ErrBlobs, api.ID{})
}

// A need that is greater than a cache, and greater than a bundle may be, and one
// of all ids of a narrow width.
func TestP15_1_GreatNeeds(t *testing.T) {
	all := numbered(32, 400)
	m, need := mapOf(32, all...)
	s := stored(t, 32, nil, nil)
	s.wantRefused(t, "400", asked{m, nil, need, api.Keep}, api.ErrBlobs, api.ID{})
	delete(m, need[399])
	s.wantRefused(t, "400, the last lacks", asked{m, nil, need, api.Keep}, api.ErrNoBlob, need[399])
	all = numbered(1, 256)
	m, need = mapOf(1, all...)
	s = stored(t, 1, all[:200], nil)
	s.wantRefused(t, "all ids of a byte", asked{m, nil, need, api.Keep}, api.ErrBlobs, api.ID{})
	s.wantChange(t, "200 of them", asked{m, nil, need[:200], api.Keep}, nil, nil)
	s.hand(t, blobName("a", need[3]), clash(1, all[3]))
	s.wantRefused(t, "a clash", asked{m, nil, need, api.Keep}, api.ErrCollision, need[3])
}
