package plan_test

import (
	"errors"
	"strings"
	"testing"

	"freight/api"
)

// refusal is a call that is refused: what its fault says, and the lower call
// whose fault lies beneath.
type refusal struct {
	wrong
	lower string
	call  func() error
}

// refusals are all errors of Of.
func refusals(t *testing.T) []refusal {
	lowers := map[api.Errno]string{api.ErrOff: "cache.table", api.ErrCache: "cache.table"}
	var list []refusal
	for _, w := range wrongs(0) {
		o := newOrder()
		w.spoil(o)
		s := ordered(t, o)
		list = append(list, refusal{w, lowers[w.want], func() error {
			_, err := s.ask(o.asked)
			return err
		}})
	}
	return list
}

func TestErrors_EachIsAFault(t *testing.T) {
	list := refusals(t)
	for _, r := range list {
		err := r.call()
		wantFault(t, "refused", err, "a", r.want, r.id)
		var fault *api.Fault
		if !errors.As(err, &fault) || fault != err {
			t.Errorf("%d: errors.As finds %v", r.want, fault)
		}
		for _, other := range list {
			if is := errors.Is(err, other.want); is != (other.want == r.want) {
				t.Errorf("%d: errors.Is of %d is %t", r.want, other.want, is)
			}
		}
		if !strings.HasPrefix(err.Error(), "plan.of a: ") || !strings.Contains(err.Error(), r.want.Error()) {
			t.Errorf("%d: in words: %s", r.want, err)
		}
	}
}

// What a lower call said lies beneath, and is found.
func TestErrors_WrapWhatLiesBeneath(t *testing.T) {
	for _, r := range refusals(t) {
		if r.lower == "" {
			continue
		}
		var lower *api.Fault
		if !errors.As(errors.Unwrap(r.call()), &lower) || lower.Op != r.lower || lower.Name != "a" || !errors.Is(lower, r.want) {
			t.Errorf("%d: beneath lies %v, want %q", r.want, lower, r.lower)
		}
	}
}

// A source's own fault lies beneath too, as it was: errors.As finds it behind the
// fault of Of, errors.Is its error, and its words are told.
func TestErrors_WrapTheSources(t *testing.T) {
	s := stored(t, 8, nil, nil)
	good := goodAsked(8)
	line := errors.New("the line is cut")
	for _, x := range []struct {
		err  error
		want api.Errno
	}{{errors.Join(line, api.ErrNone), api.ErrNone}, {line, api.ErrMissing}, {wrapping{line}, api.ErrMissing}} {
		theirs := &api.Fault{Op: "line.get", Name: "north", ID: api.ID{99}, Err: x.err}
		a := good
		a.source = refusing(good.source, theirs, good.need[1])
		_, err := s.ask(a)
		wantFault(t, "the source's", err, "a", x.want, good.need[1])
		var lower *api.Fault
		if !errors.As(errors.Unwrap(err), &lower) || lower != theirs {
			t.Errorf("beneath lies %v", lower)
		}
		if !errors.Is(err, line) || !errors.Is(err, theirs) || !strings.Contains(err.Error(), x.err.Error()) {
			t.Errorf("the source's error is not found in %v", err)
		}
		if *theirs != (api.Fault{Op: "line.get", Name: "north", ID: api.ID{99}, Err: x.err}) {
			t.Errorf("the source's fault is another: %v", theirs)
		}
	}
}

// Each refusal has its own fault: one may be written over, another is as it was.
func TestErrors_FaultsAreNew(t *testing.T) {
	for _, r := range refusals(t) {
		one, other := r.call(), r.call()
		for err := one; err != nil; err = errors.Unwrap(err) {
			if fault, is := err.(*api.Fault); is {
				fault.Op, fault.Name, fault.ID = "z", "z", api.ID{99}
			}
		}
		wantFault(t, "another", other, "a", r.want, r.id)
		wantFault(t, "once more", r.call(), "a", r.want, r.id)
	}
}

// An answer that is OK is nil, not a fault that says nothing.
func TestErrors_OKIsNil(t *testing.T) {
	s := stored(t, 8, nil, nil)
	for _, policy := range policies() {
		a := goodAsked(8)
		a.policy = policy
		if _, err := s.ask(a); err != nil {
			t.Errorf("%v (%T)", err, err)
		}
	}
}
