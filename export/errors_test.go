package export_test

import (
	"errors"
	"testing"

	"freight/api"
	"freight/export"
)

// refusal is a call that is refused: what its fault says, and the lower call
// whose fault lies beneath.
type refusal struct {
	op    string
	id    api.ID
	want  api.Errno
	lower string
	call  func() error
}

// lowers are the lower calls that say a number of P14.1; those that are said here
// have none.
func lowers() map[api.Errno]string {
	return map[api.Errno]string{
		api.ErrOff: "cache.table", api.ErrCache: "cache.table",
		api.ErrNoTree: "reach.need", api.ErrDeep: "reach.need", api.ErrMissing: "reach.need",
	}
}

// refusals are all errors of both calls.
func refusals(t *testing.T) []refusal {
	var list []refusal
	for _, w := range wrongs() {
		o := order{goods: stock(32), actions: acts(3), size: 64}
		w.spoil(&o)
		s := ordered(t, o)
		lower := lowers()[w.want]
		list = append(list,
			refusal{"export.build", w.id, w.want, lower, func() error {
				_, err := export.Build(s.cache, o.actions, o.size)
				return err
			}},
			refusal{"export.export", w.id, w.want, lower, func() error { return export.Export(s.cache, o.actions, o.size, "x") }},
		)
	}
	put := func(plan api.Plan, name string) func() error {
		s := stored(t, stock(32))
		return func() error {
			w := s.twin(t)
			w.disk.Plan(plan)
			return export.Export(w.cache, acts(1), 64, name)
		}
	}
	return append(list,
		refusal{"export.export", api.ID{}, api.ErrName, "file.put", put(api.Plan{}, "+x")},
		refusal{"export.export", api.ID{}, api.ErrFull, "file.put", put(api.Plan{From: 1, To: 1}, "x")},
		refusal{"export.export", api.ID{}, api.ErrFull, "file.put", put(api.Plan{From: 2, To: 2}, "x")},
		refusal{"export.export", api.ID{}, api.ErrOff, "file.put", put(api.Plan{Off: 5}, "x")},
	)
}

func TestErrors_EachIsAFault(t *testing.T) {
	list := refusals(t)
	for _, r := range list {
		err := r.call()
		wantFault(t, r.op, err, r.op, "a", r.want, r.id)
		var fault *api.Fault
		if !errors.As(err, &fault) || fault != err {
			t.Errorf("%s, %d: errors.As finds %v", r.op, r.want, fault)
		}
		for _, other := range list {
			if is := errors.Is(err, other.want); is != (other.want == r.want) {
				t.Errorf("%s, %d: errors.Is of %d is %t", r.op, r.want, other.want, is)
			}
		}
	}
}

// What a lower call said lies beneath, and is found.
func TestErrors_WrapWhatLiesBeneath(t *testing.T) {
	for _, r := range refusals(t) {
		beneath := errors.Unwrap(r.call())
		if r.lower == "" {
			if beneath != error(r.want) {
				t.Errorf("%s, %d: beneath lies %v", r.op, r.want, beneath)
			}
			continue
		}
		var lower *api.Fault
		if !errors.As(beneath, &lower) || lower.Op != r.lower || !errors.Is(lower, r.want) || lower.ID != r.id {
			t.Errorf("%s, %d: beneath lies %v, want %q", r.op, r.want, beneath, r.lower)
		}
	}
}

// Each refusal has its own fault: one may be written over, another is as it was.
func TestErrors_FaultsAreNew(t *testing.T) {
	for _, r := range refusals(t) {
		one, other := r.call(), r.call()
		for err := one; err != nil; err = errors.Unwrap(err) {
			if fault, is := err.(*api.Fault); is {
				fault.Op, fault.Name, fault.ID = "z", "z", api.ID{99}
			}
		}
		wantFault(t, "another", other, r.op, "a", r.want, r.id)
		wantFault(t, "once more", r.call(), r.op, "a", r.want, r.id)
	}
}

// An answer that is OK is nil, not a fault that says nothing.
func TestErrors_OKIsNil(t *testing.T) {
	s := stored(t, stock(32))
	for _, actions := range sets() {
		if _, err := export.Build(s.cache, actions, 64); err != nil {
			t.Errorf("Build: %v (%T)", err, err)
		}
		if err := export.Export(s.cache, actions, 64, "x"); err != nil {
			t.Errorf("Export: %v (%T)", err, err)
		}
	}
}
