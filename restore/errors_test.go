package restore_test

import (
	"errors"
	"strings"
	"testing"

	"freight/api"
	"freight/restore"
)

// refusal is a call that is refused, and what its fault says.
type refusal struct {
	said
	op, name string
	lower    string // the Op of the lower call whose fault is wrapped; "": none
	call     func() error
}

// refusals are all errors of the package.
func refusals(t *testing.T) []refusal {
	list := []refusal{
		{said{code: api.ErrArg}, "restore.pick", "", "", func() error { _, err := restore.Pick(resultsFrom(1, 33, api.ID{}), acts(99)); return err }},
		{said{api.ErrNoAction, act(2)}, "restore.pick", "", "", func() error { _, err := restore.Pick(five(), acts(4, 2)); return err }},
	}
	for turn := range 4 {
		for k, w := range wrongs(turn) {
			lower := "intake.part"
			switch {
			case k < 3:
				lower = ""
			case k == 3:
				lower = "reader.open"
			case k == 4:
				lower = "restore.pick"
			case k < 9:
				lower = "reach.need"
			}
			file := newLot()
			w.spoil(file)
			list = append(list, refusal{w.said, "restore.restore", file.file, lower, func() error {
				l := newLot()
				w.spoil(l)
				return l.ask.of(l.made(t))
			}})
		}
	}
	return list
}

func TestErrors_EachIsAFault(t *testing.T) {
	for _, r := range refusals(t) {
		err := r.call()
		wantFault(t, r.op, err, r.op, r.name, r.said)
		var fault *api.Fault
		if !errors.As(err, &fault) || fault != err {
			t.Errorf("%s, %d: errors.As finds %v", r.op, r.code, fault)
		}
		if !strings.HasPrefix(err.Error(), r.op+" "+r.name+": ") || !strings.Contains(err.Error(), r.code.Error()) {
			t.Errorf("%s, %d: in words: %s", r.op, r.code, err)
		}
	}
}

// What the lower call said lies beneath: its fault, with its number.
func TestErrors_TheyWrap(t *testing.T) {
	for _, r := range refusals(t) {
		why := errors.Unwrap(r.call())
		var lower *api.Fault
		if is := errors.As(why, &lower); is != (r.lower != "") || is && (lower.Op != r.lower || api.Code(lower) != r.code) {
			t.Errorf("%s, %d: beneath lies %v, want %q", r.op, r.code, why, r.lower)
		}
		if !errors.Is(why, r.code) {
			t.Errorf("%s, %d: errors.Is does not find it", r.op, r.code)
		}
	}
}

// Each refusal has its own fault: one may be written over, another is as it was.
func TestErrors_FaultsAreNew(t *testing.T) {
	for _, r := range refusals(t) {
		one, other := r.call(), r.call()
		for err := one; err != nil; err = errors.Unwrap(err) {
			if fault, is := err.(*api.Fault); is {
				fault.Op, fault.Name, fault.ID = "z", "z", api.ID{99}
			}
		}
		wantFault(t, "another", other, r.op, r.name, r.said)
		wantFault(t, "once more", r.call(), r.op, r.name, r.said)
	}
}

// With an error Pick tells no results.
func TestW3_NoResultsBesideAnError(t *testing.T) {
	for _, results := range noTables() {
		if got, err := restore.Pick(results, actionsOf(results...)); err == nil || len(got) > 0 {
			t.Errorf("%v, %v", got, err)
		}
	}
	if got, err := restore.Pick(five(), acts(1, 3, 4)); err == nil || len(got) > 0 {
		t.Errorf("%v, %v", got, err)
	}
}
