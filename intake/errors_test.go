package intake_test

import (
	"errors"
	"strings"
	"testing"

	"freight/api"
	"freight/intake"
)

// refusal is a call that is refused, and what its fault says.
type refusal struct {
	said
	op, name string
	call     func() error
}

// refusals are all errors of the package.
func refusals(t *testing.T) []refusal {
	var list []refusal
	add := func(w wrong, journal string, d func(l *lot, from source) doing) {
		list = append(list, refusal{w.said, d(newLot(), source{}).op, "a", func() error {
			l := newLot()
			l.journal = journal
			w.spoil(l)
			s, from := l.made(t)
			return d(l, from).call(s)
		}})
	}
	for _, w := range ofImport() {
		add(w, "", func(l *lot, from source) doing { return importing(l.file, l.policy) })
	}
	for _, w := range ofPart(0) {
		add(w, "", func(l *lot, from source) doing { return taking(from, l.results, l.need, l.policy) })
	}
	g := stock(wrongWidth)
	open := formByWords(g.journal(16, g.results...))
	for _, w := range ofResume() {
		add(w, open, func(l *lot, from source) doing { return resuming() })
	}
	for _, w := range ofResume()[:2] {
		add(w, open, func(l *lot, from source) doing { return abandoning() })
	}
	for _, w := range ofResume()[:3] {
		add(w, open, func(l *lot, from source) doing {
			return doing{op: "intake.journal", call: func(s *store) error { _, err := intake.Journal(s.cache); return err }}
		})
	}
	return append(list,
		refusal{said{code: api.ErrJournal}, "intake.encode", "", func() error { _, err := intake.Encode(api.Journal{}); return err }},
		refusal{said{code: api.ErrJournal}, "intake.decode", "", func() error { _, err := intake.Decode(nil); return err }},
	)
}

func TestErrors_EachIsAFault(t *testing.T) {
	for _, r := range refusals(t) {
		err := r.call()
		wantFault(t, r.op, err, r.op, r.name, r.code, r.id)
		var fault *api.Fault
		if !errors.As(err, &fault) || fault != err {
			t.Errorf("%s, %d: errors.As finds %v", r.op, r.code, fault)
		}
		if !strings.HasPrefix(err.Error(), r.op+" "+r.name+": ") || !strings.Contains(err.Error(), r.code.Error()) {
			t.Errorf("%s, %d: in words: %s", r.op, r.code, err)
		}
	}
}

// Each refusal has its own fault: one may be written over, another is as it was.
func TestErrors_FaultsAreNew(t *testing.T) {
	for _, r := range refusals(t) {
		one, other := r.call(), r.call()
		for err := one; err != nil; err = errors.Unwrap(err) {
			if fault, is := err.(*api.Fault); is {
				fault.Op, fault.Name, fault.ID = "z", "z", api.ID{99}
			}
		}
		wantFault(t, "another", other, r.op, r.name, r.code, r.id)
		wantFault(t, "once more", r.call(), r.op, r.name, r.code, r.id)
	}
}

// The fault has the cache's name, not the file's.
func TestErrors_TheCachesName(t *testing.T) {
	g := stock(32)
	for _, name := range []string{"a", "0", "b-2", times(32, "z")} {
		s := opened(t, mustLoad(t, api.MaxRoom, of("f.x", g.bundle(64)), of("f.bad", "none")), name, 32)
		s.wantRefused(t, name, importing("f.x", 0), api.ErrArg, api.ID{})
		s.wantRefused(t, name, importing("F", api.Keep), api.ErrName, api.ID{})
		s.wantRefused(t, name, importing("f.bad", api.Keep), api.ErrBundle, api.ID{})
		s.wantRefused(t, name, taking(s.reader(t, "f.x"), nil, ids(1), api.Keep), api.ErrNoBlob, ids(1)[0])
		s.wantRefused(t, name, resuming(), api.ErrNoImport, api.ID{})
		s.wantRefused(t, name, abandoning(), api.ErrNoImport, api.ID{})
		s.wantNoJournal(t, name, api.ErrNoImport)
		s.disk.Plan(api.Plan{From: 6, To: 6})
		s.want(t, name, importing("f.x", api.Keep), api.ErrFull, g.ids()[0])
		s.wantRefused(t, name, importing("f.x", api.Keep), api.ErrOpen, api.ID{})
		s.want(t, name, resuming(), api.OK, api.ID{})
		s.wantHolds(t, name, g.blobs, g.results)
	}
}
