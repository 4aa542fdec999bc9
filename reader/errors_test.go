package reader_test

import (
	"errors"
	"testing"

	"freight/api"
	"freight/reader"
)

// refusal is a call that is refused: what its fault says, and the lower call
// whose fault lies beneath.
type refusal struct {
	op, name string
	id       api.ID
	want     api.Errno
	lower    string
	call     func() error
}

// only is the error of a call that tells something too.
func only[T any](_ T, err error) error { return err }

// refusals are all errors of both calls.
func refusals(t *testing.T) []refusal {
	var zero api.ID
	good := shelveStored(t)
	open := func(data []byte, width int) func() error {
		d := mustLoad(t, of("f.x", data))
		return func() error { return only(reader.Open(d, "f.x", width)) }
	}
	named := func(name string) func() error {
		return func() error { return only(reader.Open(good.disk, name, 32)) }
	}
	get := func(k int, spoil func(s *shelf)) func() error {
		s := shelveStored(t)
		spoil(s)
		id := api.ID{9}
		if k >= 0 {
			id = idOf(32, stored()[k])
		}
		return func() error { return only(s.reader.Get(id)) }
	}
	other := near(idOf(32, stored()[4]), 31)
	another := shelve(t, 32, withID(good.data, 4, other))
	var none *reader.Reader
	list := []refusal{
		{"reader.open", "f.x", zero, api.ErrArg, "", open(good.data, 33)},
		{"reader.open", "f.b", zero, api.ErrOff, "", func() error { return only(reader.Open(nil, "f.b", 32)) }},
		{"reader.open", "F \xff", zero, api.ErrName, "", named("F \xff")},
		{"reader.open", "", zero, api.ErrName, "", named("")},
		{"reader.open", "f.z", zero, api.ErrNone, "", named("f.z")},
		{"reader.open", "f.x", zero, api.ErrBundleLong, "bundle.look", open(times(api.MaxFile+1, 0), 32)},
		{"reader.get", "", zero, api.ErrOff, "", func() error { return only(none.Get(api.ID{9})) }},
		{"reader.get", "f.b", zero, api.ErrOff, "", get(-1, func(s *shelf) { powerOff(s.disk) })},
		{"reader.get", "f.b", api.ID{9}, api.ErrNoBlob, "", get(-1, func(s *shelf) {})},
		{"reader.get", "f.b", zero, api.ErrNone, "", get(7, func(s *shelf) { s.disk.Remove("f.b") })},
		{"reader.get", "f.b", zero, api.ErrBeyond, "", get(7, func(s *shelf) { s.disk.Truncate("f.b", 100) })},
		{"reader.get", "f.b", zero, api.ErrBlock, "", get(7, func(s *shelf) { s.turn(storedSpan(6).At) })},
		{"reader.get", "f.b", other, api.ErrDigest, "", func() error { return only(another.reader.Get(other)) }},
	}
	for _, x := range refusedByLook(t) {
		list = append(list, refusal{"reader.open", "f.x", zero, x.want, "bundle.look", open(x.data, 8)})
	}
	return list
}

func TestErrors_EachIsAFault(t *testing.T) {
	list := refusals(t)
	for _, r := range list {
		err := r.call()
		wantFault(t, r.op, err, r.op, r.name, r.want, r.id)
		var fault *api.Fault
		if !errors.As(err, &fault) || fault != err {
			t.Errorf("%s, %d: errors.As finds %v", r.op, r.want, fault)
		}
		for _, other := range list {
			if is := errors.Is(err, other.want); is != (other.want == r.want) {
				t.Errorf("%s, %d: errors.Is of %d is %t", r.op, r.want, other.want, is)
			}
		}
	}
}

// What Look said lies beneath, and is found; what the disk and the block said are
// numbers.
func TestErrors_WrapWhatLiesBeneath(t *testing.T) {
	for _, r := range refusals(t) {
		beneath := errors.Unwrap(r.call())
		if r.lower == "" {
			if beneath != error(r.want) {
				t.Errorf("%s, %d: beneath lies %v", r.op, r.want, beneath)
			}
			continue
		}
		var lower *api.Fault
		if !errors.As(beneath, &lower) || lower.Op != r.lower || !errors.Is(lower, r.want) {
			t.Errorf("%s, %d: beneath lies %v, want %q", r.op, r.want, beneath, r.lower)
		}
	}
}

// Each refusal has its own fault: one may be written over, another is as it was.
func TestErrors_FaultsAreNew(t *testing.T) {
	for _, r := range refusals(t) {
		one, other := r.call(), r.call()
		for err := one; err != nil; err = errors.Unwrap(err) {
			if fault, is := err.(*api.Fault); is {
				fault.Op, fault.Name, fault.ID = "z", "z", api.ID{99}
			}
		}
		wantFault(t, "another", other, r.op, r.name, r.want, r.id)
		wantFault(t, "once more", r.call(), r.op, r.name, r.want, r.id)
	}
}

// An answer that is OK is nil, not a fault that says nothing.
func TestErrors_OKIsNil(t *testing.T) {
	s := shelveStored(t)
	errs := []error{only(reader.Open(s.disk, "f.b", 32))}
	for _, b := range stored() {
		errs = append(errs, only(s.reader.Get(idOf(32, b))))
	}
	for i, err := range errs {
		if err != nil {
			t.Errorf("answer %d: %v (%T)", i, err, err)
		}
	}
}
