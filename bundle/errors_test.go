package bundle_test

import (
	"bytes"
	"errors"
	"testing"

	"freight/api"
	"freight/bundle"
)

// refusal is a call that is refused: by its fault, and by the lower call whose
// fault lies beneath.
type refusal struct {
	op    string
	id    api.ID
	want  api.Errno
	lower string
	call  func() error
}

// only is the error of a call that tells something too.
func only[T any](_ T, err error) error { return err }

// refusals are all errors of all calls.
func refusals() []refusal {
	zero := api.ID{}
	results, blobs := stock(31)
	good := stocked(31, 16)
	data := good.bytes()
	sum := bytes.Clone(data)
	sum[numbersOf(data)[0]] ^= 1
	block := bytes.Clone(data)
	block[6] ^= 1
	other := stocked(31, 16)
	other.places[1].ID = near(other.places[1].ID, 30)
	manyBlobs := stocked(31, 16)
	manyBlobs.places = risingPlaces(65, 1)
	long := stocked(31, 16)
	long.places = risingPlaces(17, 4096)
	of := func(n needs) []byte { return draftOf(31, n.results, n.blobs, 16).bytes() }
	wrong := wrongNeeds(31)
	making := func(width int, results []api.Result, blobs [][]byte) func() error {
		return func() error { return only(bundle.Make(width, results, blobs, 16)) }
	}
	look := func(data []byte, width int) func() error {
		return func() error { return only(bundle.Look(len(data), readOf(data, new([][2]int)), width)) }
	}
	parse := func(data []byte, width int) func() error {
		return func() error { return only(bundle.Parse(data, width)) }
	}
	verify := func(data []byte, width int) func() error {
		return func() error { return only(bundle.Verify(data, width)) }
	}
	return []refusal{
		{"bundle.make", zero, api.ErrArg, "", making(0, results, blobs)},
		{"bundle.make", zero, api.ErrLong, "", making(31, results, [][]byte{times(4097, 1)})},
		{"bundle.make", api.ID{3}, api.ErrCollision, "", making(1, results, clashing(noise(), 8, 3))},
		{"bundle.make", zero, api.ErrMany, "", making(31, results, unlike(65, 5))},
		{"bundle.make", zero, api.ErrBundleLong, "", making(31, results, unlike(17, 4096))},
		{"bundle.look", zero, api.ErrArg, "", look(data, 0)},
		{"bundle.look", zero, api.ErrBundleLong, "", look(times(api.MaxFile+1, 0), 31)},
		{"bundle.look", zero, api.ErrBundle, "", look(data[1:], 31)},
		{"bundle.look", zero, api.ErrSum, "", look(sum, 31)},
		{"bundle.look", zero, api.ErrMany, "", look(manyBlobs.bytes(), 31)},
		{"bundle.look", zero, api.ErrBundleLong, "", look(long.bytes(), 31)},
		{"bundle.parse", zero, api.ErrArg, "bundle.look", parse(data, 33)},
		{"bundle.parse", zero, api.ErrBundle, "bundle.look", parse(nil, 31)},
		{"bundle.parse", zero, api.ErrSum, "bundle.look", parse(sum, 31)},
		{"bundle.parse", zero, api.ErrMany, "bundle.look", parse(manyBlobs.bytes(), 31)},
		{"bundle.parse", zero, api.ErrBundleLong, "bundle.look", parse(long.bytes(), 31)},
		{"bundle.verify", zero, api.ErrArg, "bundle.parse", verify(data, -1)},
		{"bundle.verify", zero, api.ErrBundle, "bundle.parse", verify(data, 30)},
		{"bundle.verify", zero, api.ErrSum, "bundle.parse", verify(sum, 31)},
		{"bundle.verify", zero, api.ErrMany, "bundle.parse", verify(manyBlobs.bytes(), 31)},
		{"bundle.verify", zero, api.ErrBundleLong, "bundle.parse", verify(long.bytes(), 31)},
		{"bundle.verify", zero, api.ErrBlock, "", verify(block, 31)},
		{"bundle.verify", other.places[1].ID, api.ErrDigest, "", verify(other.bytes(), 31)},
		{"bundle.verify", wrong[0].id, api.ErrNoTree, "reach.need", verify(of(wrong[0]), 31)},
		{"bundle.verify", wrong[1].id, api.ErrDeep, "reach.need", verify(of(wrong[1]), 31)},
		{"bundle.verify", wrong[2].id, api.ErrMissing, "reach.need", verify(of(wrong[2]), 31)},
		{"bundle.verify", wrong[3].id, api.ErrExtra, "", verify(of(wrong[3]), 31)},
	}
}

func TestErrors_EachIsAFault(t *testing.T) {
	all := refusals()
	for _, r := range all {
		err := r.call()
		wantFault(t, r.op, err, r.op, r.want, r.id)
		var fault *api.Fault
		if !errors.As(err, &fault) || fault != err {
			t.Errorf("%s, %d: errors.As finds %v", r.op, r.want, fault)
		}
		for _, other := range all {
			if is := errors.Is(err, other.want); is != (other.want == r.want) {
				t.Errorf("%s, %d: errors.Is of %d is %t", r.op, r.want, other.want, is)
			}
		}
	}
}

// What Look, Parse and Need said lies beneath, and is found.
func TestErrors_WrapTheLowerFault(t *testing.T) {
	for _, r := range refusals() {
		var lower *api.Fault
		is := errors.As(errors.Unwrap(r.call()), &lower)
		if r.lower == "" {
			if is {
				t.Errorf("%s, %d: beneath lies %v", r.op, r.want, lower)
			}
			continue
		}
		if !is || lower.Op != r.lower || lower.ID != r.id || !errors.Is(lower, r.want) {
			t.Errorf("%s, %d: beneath lies %v, want %q", r.op, r.want, lower, r.lower)
		}
	}
}

// Each refusal has its own fault: one may be written over, another is as it was.
func TestErrors_FaultsAreNew(t *testing.T) {
	for _, r := range refusals() {
		one, other := r.call(), r.call()
		for err := one; err != nil; err = errors.Unwrap(err) {
			if fault, is := err.(*api.Fault); is {
				fault.Op, fault.Name, fault.ID = "z", "z", api.ID{99}
			}
		}
		wantFault(t, "another", other, r.op, r.want, r.id)
	}
}

// An answer that is OK is nil, not a fault that says nothing.
func TestErrors_OKIsNil(t *testing.T) {
	results, blobs := stock(31)
	data := stocked(31, 16).bytes()
	for i, err := range []error{
		only(bundle.Make(31, results, blobs, 16)),
		only(bundle.Make(31, nil, nil, 16)),
		only(bundle.Look(len(data), readOf(data, new([][2]int)), 31)),
		only(bundle.Parse(data, 31)),
		only(bundle.Verify(data, 31)),
	} {
		if err != nil {
			t.Errorf("answer %d: %v (%T)", i, err, err)
		}
	}
}
