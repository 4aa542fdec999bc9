package reach_test

import (
	"errors"
	"fmt"
	"testing"

	"freight/api"
	"freight/reach"
)

// wrapping is an error with an error in it.
type wrapping struct{ inner error }

func (w wrapping) Error() string { return "wrapped" }
func (w wrapping) Unwrap() error { return w.inner }

// numbered says its number itself, to whoever asks with errors.As or errors.Is.
type numbered struct{ number api.Errno }

func (n numbered) Error() string { return "numbered" }

func (n numbered) Is(target error) bool { return target == n.number }

func (n numbered) As(target any) bool {
	errno, is := target.(*api.Errno)
	if is {
		*errno = n.number
	}
	return is
}

// wrapped is an error in all kinds of wrapping.
func wrapped(err error) []error {
	return []error{
		err,
		wrapping{err},
		wrapping{wrapping{wrapping{err}}},
		&api.Fault{Op: "cache.get", Name: "c", ID: letter("z"), Err: err},
		&api.Fault{Err: &api.Fault{Op: "file.get", Err: wrapping{err}}},
		fmt.Errorf("told of %w", err),
		errors.Join(err, errors.New("and more")),
		errors.Join(errors.New("ahead of it"), err),
	}
}

func TestP9_2_LackWrapped(t *testing.T) {
	for _, errno := range []api.Errno{api.ErrNoBlob, api.ErrDamage} {
		for _, err := range append(wrapped(errno), numbered{errno}, errors.Join(errno, api.ErrOff)) {
			l := blind(example(), err, letters("bc")...)
			wantNoNeed(t, l, roots("a"), api.ErrMissing, letter("b"))
			wantLacks(t, l, roots("a"), letters("bc"))
			wantAsked(t, l, roots("a"), letters("abc"))
		}
	}
}

// The error of a lack is not handed on: ErrMissing is all that is said of it.
func TestP9_2_MissingIsNotTheSourcesError(t *testing.T) {
	_, err := reach.Need(blind(nil, &api.Fault{Op: "x", Name: "y", Err: api.ErrDamage}, letter("a")), roots("a")...)
	wantFault(t, "Need", err, "reach.need", letter("a"), api.ErrMissing)
	for _, other := range []api.Errno{api.ErrDamage, api.ErrNoBlob} {
		if errors.Is(err, other) {
			t.Errorf("Need: %v is %d too", err, other)
		}
	}
}

// Every other number says that the source cannot look.
func TestP9_2_OtherNumbers(t *testing.T) {
	for number := api.Errno(-3); number < 200; number++ {
		l := blind(example(), number, letter("b"))
		if number == api.ErrNoBlob || number == api.ErrDamage {
			wantLacks(t, l, roots("a"), letters("b"))
		} else {
			wantBlind(t, l, roots("a"), number, letter("b"))
		}
	}
}

func TestP9_2_CannotLookWrapped(t *testing.T) {
	for _, inner := range []error{api.ErrOff, api.ErrMissing, errors.New("no number")} {
		for _, err := range wrapped(inner) {
			for _, id := range letters("abcd") {
				l := blind(example(), err, id)
				wantBlind(t, l, roots("a"), err, id)
				_, answer := reach.Need(l, roots("a")...)
				if !errors.Is(answer, inner) {
					t.Errorf("errors.Is does not find %v in %v", inner, answer)
				}
			}
		}
	}
}

// The number that counts is the first one: what is joined behind it says no
// more.
func TestP9_2_TheFirstNumberCounts(t *testing.T) {
	err := errors.Join(api.ErrOff, api.ErrNoBlob)
	wantBlind(t, blind(example(), err, letter("b")), roots("a"), err, letter("b"))
	wantBlind(t, blind(example(), numbered{api.ErrBlock}, letter("b")), roots("a"), numbered{api.ErrBlock}, letter("b"))
}

// An error that is not nil is one, also if it points to nothing, or says OK.
func TestP9_2_OddErrors(t *testing.T) {
	for _, err := range []error{(*api.Fault)(nil), &api.Fault{}, api.OK, wrapping{}} {
		wantBlind(t, blind(example(), err, letter("d")), roots("a"), err, letter("d"))
	}
}

// many cannot be held against another by ==.
type many []string

func (m many) Error() string { return "many" }

func TestW1_ErrorsThatCannotBeCompared(t *testing.T) {
	for op, ask := range calls() {
		got, err := ask(blind(example(), many{"x"}, letter("c")), roots("a")...)
		wantFault(t, op, err, op, letter("c"), -1)
		var inner many
		if !errors.As(err, &inner) || got != nil {
			t.Errorf("%s: %s, %v", op, told(got...), err)
		}
	}
}

// generous tells bytes beside its error.
type generous struct{ err error }

func (g generous) Get(api.ID) ([]byte, error) { return treeOf("x", "y/"), g.err }

func TestP9_2_BytesBesideAnError(t *testing.T) {
	wantNoNeed(t, generous{api.ErrNoBlob}, roots("ba"), api.ErrMissing, letter("a"))
	wantLacks(t, generous{api.ErrDamage}, roots("ba"), letters("ab"))
	wantBlind(t, generous{api.ErrOff}, roots("ba"), api.ErrOff, letter("a"))
}

// The id is the one that was asked for, not the one that the source's fault
// names.
func TestP9_2_TheIDThatWasAskedFor(t *testing.T) {
	err := &api.Fault{Op: "cache.get", Name: "c", ID: letter("q"), Err: api.ErrOff}
	wantBlind(t, blind(example(), err, letter("c")), roots("a"), err, letter("c"))
}

// Any type that has Get is a source: a value, a pointer that is nil.
type nowhere struct{}

func (*nowhere) Get(api.ID) ([]byte, error) { return nil, api.ErrOff }

func TestP9_2_NilPointerIsASource(t *testing.T) {
	wantBlind(t, (*nowhere)(nil), roots("ba"), api.ErrOff, letter("a"))
	wantNeed(t, (*nowhere)(nil), nil, nil)
}

// nested asks for a need itself when it is asked.
type nested struct {
	t     testing.TB
	inner reach.Map
}

func (n nested) Get(id api.ID) ([]byte, error) {
	wantNeed(n.t, n.inner, roots("a"), letters("abcd"))
	return n.inner.Get(id)
}

func TestW2_CallsWithinCalls(t *testing.T) {
	wantNeed(t, nested{t, example()}, roots("ab"), letters("abcd"))
}

func TestErrors_FaultsAreNew(t *testing.T) {
	for op, ask := range calls() {
		l := blind(example(), api.ErrOff, letter("b"))
		_, first := ask(l, roots("a")...)
		_, second := ask(l, roots("a")...)
		*first.(*api.Fault) = api.Fault{Op: "z", Name: "z", ID: letter("z"), Err: api.ErrArg}
		wantFault(t, op, second, op, letter("b"), api.ErrOff)
	}
	for _, results := range [][]api.Result{roots("c"), roots("e")} {
		_, first := reach.Need(example(), results...)
		_, second := reach.Need(example(), results...)
		want := api.Code(second)
		*first.(*api.Fault) = api.Fault{Op: "z", Name: "z", ID: letter("z"), Err: api.ErrArg}
		wantFault(t, "Need", second, "reach.need", results[0].Root, want)
	}
}

// An answer that is OK is nil, not a fault that says nothing.
func TestErrors_OKIsNil(t *testing.T) {
	for op, ask := range calls() {
		if _, err := ask(example(), roots("a")...); err != nil {
			t.Errorf("%s: %v (%T)", op, err, err)
		}
	}
	if _, err := example().Get(letter("a")); err != nil {
		t.Errorf("Get: %v (%T)", err, err)
	}
}
