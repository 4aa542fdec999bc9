package export

import (
	"errors"
	"fmt"
	"slices"
	"testing"
	"testing/synctest"

	"freight/api"
)

// In a cache each blob of a need that is whole can be read: so what is done where
// one cannot is asked here of the function within.

// shelf is a source that tells what it was asked for, and cannot read from the
// id on whose first byte is bad.
type shelf struct {
	bad   int
	why   error
	asked []api.ID
}

func (s *shelf) Get(id api.ID) ([]byte, error) {
	s.asked = append(s.asked, id)
	if int(id[0]) >= s.bad {
		return nil, s.why
	}
	return []byte(fmt.Sprint("blob ", id[0])), nil
}

func firstIDs(n int) []api.ID {
	var ids []api.ID
	for i := range n {
		ids = append(ids, api.ID{byte(i)})
	}
	return ids
}

func TestGather_All(t *testing.T) {
	for _, n := range []int{0, 1, 2, 64, 200} {
		synctest.Test(t, func(t *testing.T) {
			s := &shelf{bad: n}
			ids := firstIDs(n)
			kept := slices.Clone(ids)
			blobs, err := gather(s, ids)
			if err != nil || len(blobs) != n || !slices.Equal(s.asked, kept) || !slices.Equal(ids, kept) {
				t.Fatalf("%d blobs of %d, %v", len(blobs), n, err)
			}
			for i, blob := range blobs {
				if string(blob) != fmt.Sprint("blob ", i) {
					t.Errorf("blob %d is %q", i, blob)
				}
			}
		})
	}
}

// The first that cannot be read ends it: nothing is told but the error, nothing
// more is asked for, and the goroutine has ended (within a bubble that it would
// hold up).
func TestGather_OneCannotBeRead(t *testing.T) {
	why := &api.Fault{Op: "cache.get", ID: api.ID{5}, Err: api.ErrDamage}
	for _, n := range []int{1, 2, 64} {
		for bad := range n {
			synctest.Test(t, func(t *testing.T) {
				s := &shelf{bad: bad, why: why}
				blobs, err := gather(s, firstIDs(n))
				if blobs != nil || err != error(why) {
					t.Errorf("%d of %d: %d blobs, %v", bad, n, len(blobs), err)
				}
				synctest.Wait()
				if !slices.Equal(s.asked, firstIDs(bad+1)) {
					t.Errorf("%d of %d: %d were asked for", bad, n, len(s.asked))
				}
			})
		}
	}
}

// Of what a lower call said, the number and the id are said again.
func TestRefuse_SaysTheNumberAndTheID(t *testing.T) {
	c := call{op: "export.build"}
	lower := &api.Fault{Op: "cache.get", Name: "z", ID: api.ID{5}, Err: &api.Fault{ID: api.ID{6}, Err: api.ErrDamage}}
	err := c.refuse(lower)
	var fault *api.Fault
	if !errors.As(err, &fault) || fault.Op != "export.build" || fault.Name != "" || fault.ID != (api.ID{5}) || api.Code(err) != api.ErrDamage || !errors.Is(err, error(lower)) {
		t.Errorf("%v", err)
	}
	if numberIn(err) != api.ErrDamage || numberIn(nil) != api.OK || numberIn(errors.New("no number")) != api.OK {
		t.Error("another number")
	}
}
