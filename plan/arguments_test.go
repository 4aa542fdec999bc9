package plan_test

import (
	"fmt"
	"math"
	"slices"
	"testing"

	"freight/api"
	"freight/cache"
	"freight/reach"
)

// goodAsked is what any cache of that width takes.
func goodAsked(width int) asked {
	m, need := mapOf(width, "crate", "pallet", "")
	return asked{m, []api.Result{res(1, 1, 1), res(2, 2, 2)}, need, api.Keep}
}

// noArguments are the good ones, each with one thing that may not be handed in.
func noArguments(width int) map[string]asked {
	list := map[string]asked{}
	spoil := func(what string, change func(a *asked)) {
		a := goodAsked(width)
		change(&a)
		list[what] = a
	}
	for _, policy := range []int{0, 4, -1, -3, 5, 257, math.MaxInt, math.MinInt} {
		spoil(fmt.Sprint("policy ", policy), func(a *asked) { a.policy = policy })
	}
	for what, results := range noTables() {
		spoil(what, func(a *asked) { a.results = results })
	}
	spoil("no source", func(a *asked) { a.source = nil })
	spoil("no source, no need", func(a *asked) { a.source, a.need = nil, nil })
	for what, need := range noNeeds(width) {
		spoil(what, func(a *asked) { a.need = need })
	}
	return list
}

func noTables() map[string][]api.Result {
	many := resultsFrom(1, api.MaxActions+1)
	near := []api.Result{res(1, 1, 1), res(1, 1, 1)}
	near[0].Action[31] = 1
	return map[string][]api.Result{
		"falling actions":      {res(2, 1, 1), res(1, 1, 1)},
		"the last one falls":   {res(1, 1, 1), res(5, 1, 1), res(3, 1, 1)},
		"falling by a byte":    near,
		"an action twice":      {res(1, 1, 1), res(2, 1, 1), res(2, 2, 2)},
		"a result twice":       {res(1, 1, 1), res(1, 1, 1)},
		"too many":             many,
		"far too many":         slices.Repeat(many, 40),
		"a code that is none":  {res(1, 1, 256)},
		"a code below 0":       {res(1, 1, 1), res(2, 1, -1)},
		"a code that wraps":    {res(1, 1, 1<<32)},
		"the least int's code": {res(1, 1, math.MinInt)},
	}
}

func noNeeds(width int) map[string][]api.ID {
	_, need := mapOf(width, "crate", "pallet", "")
	turned := slices.Clone(need)
	slices.Reverse(turned)
	return map[string][]api.ID{
		"falling ids":           turned,
		"the last one falls":    {need[0], need[2], need[1]},
		"the first one falls":   {need[1], need[0], need[2]},
		"the first one twice":   {need[0], need[0], need[1]},
		"the last one twice":    {need[0], need[2], need[2]},
		"twice, not side by":    {need[0], need[1], need[0]},
		"ids that nobody has":   {{9}, {8}},
		"the zero id twice":     {{}, {}},
		"falling by a bit":      {{31: 1}, {}},
		"one byte above 127":    {{128}, {127}},
		"the second byte falls": {{1, 2}, {1, 1, 255}},
	}
}

func TestP15_1_NoArguments(t *testing.T) {
	s := stored(t, 8, []string{"crate"}, []api.Result{res(1, 9, 9)})
	for what, a := range noArguments(8) {
		s.wantRefused(t, what, a, api.ErrArg, api.ID{})
		if s.wantAsTheWordsSay(t, what, a) != api.ErrArg {
			t.Errorf("%s: the words say otherwise", what)
		}
	}
}

// What is near to them, and is taken.
func TestP15_1_Arguments(t *testing.T) {
	s := stored(t, 8, nil, nil)
	good := goodAsked(8)
	for _, policy := range policies() {
		a := good
		a.policy = policy
		s.wantChange(t, fmt.Sprint("policy ", policy), a, good.need, good.results)
	}
	for what, results := range map[string][]api.Result{
		"none": nil, "empty": {}, "one": {res(0, 0, 0)}, "codes": {res(1, 1, 0), res(2, 1, 255)}, "as many as may be": resultsFrom(1, api.MaxActions),
	} {
		s.wantChange(t, what, asked{good.source, results, good.need, api.Keep}, good.need, results)
	}
	s.wantChange(t, "no need", asked{good.source, good.results, nil, api.Keep}, nil, good.results)
	s.wantChange(t, "an empty need", asked{good.source, good.results, []api.ID{}, api.Keep}, nil, good.results)
	s.wantChange(t, "a nil Map is a source", asked{reach.Map(nil), good.results, nil, api.Keep}, nil, good.results)
	s.wantRefused(t, "so is a nil Cache", asked{(*cache.Cache)(nil), nil, good.need, api.Keep}, api.ErrOff, good.need[0])
	s.wantRefused(t, "and a zero one", asked{&cache.Cache{}, nil, good.need, api.Keep}, api.ErrOff, good.need[0])
}

// A nil Cache and a zero one have no name; ErrArg stands ahead of ErrOff.
func TestW8_NoCache(t *testing.T) {
	for _, c := range []*cache.Cache{nil, {}, new(cache.Cache)} {
		s := &store{cache: c}
		for what, a := range noArguments(8) {
			s.wantRefused(t, what, a, api.ErrArg, api.ID{})
		}
		for _, width := range []int{1, 8, 32} {
			s.wantRefused(t, "no cache", goodAsked(width), api.ErrOff, api.ID{})
		}
		s.wantRefused(t, "no cache, nothing asked", asked{reach.Map{}, nil, nil, api.Fail}, api.ErrOff, api.ID{})
		s.wantRefused(t, "no cache, no blobs", asked{reach.Map{}, nil, []api.ID{{}, {1}}, api.Fail}, api.ErrOff, api.ID{})
	}
}

// ErrOff stands ahead of all that looks at the disk, and behind the arguments.
func TestP15_1_Off(t *testing.T) {
	s := stored(t, 8, []string{"crate"}, []api.Result{res(1, 1, 1)})
	s.darken(t)
	for what, a := range noArguments(8) {
		s.wantRefused(t, "off, "+what, a, api.ErrArg, api.ID{})
	}
	good := goodAsked(8)
	s.wantRefused(t, "off", good, api.ErrOff, api.ID{})
	s.wantRefused(t, "off, nothing asked", asked{good.source, nil, nil, api.Keep}, api.ErrOff, api.ID{})
	s.wantRefused(t, "off, no blobs", asked{reach.Map{}, nil, good.need, api.Keep}, api.ErrOff, api.ID{})
	s.disk.Crash()
	if got := s.wantAsTheWordsSay(t, "behind the crash", good); got != api.OK {
		t.Errorf("the words say %d", got)
	}
	s.hand(t, "c.a.table", "no table")
	s.darken(t)
	s.wantRefused(t, "off, no table", good, api.ErrOff, api.ID{})
	s.disk.Crash()
	s.wantRefused(t, "no table", good, api.ErrCache, api.ID{})
}

// A table's file that holds no table, whatever is asked, and whatever the source
// has.
func TestP15_1_NoTable(t *testing.T) {
	form := tableForm(res(1, 1, 1), res(2, 2, 2))
	for _, bad := range []string{"", "\x09", form[:len(form)-1], form + "\x00", "\x80\x00", "\x21" + times(33*65, "\x00"), "\x02" + form[66:] + form[1:66]} {
		s := stored(t, 8, nil, nil)
		s.hand(t, "c.a.table", bad)
		good := goodAsked(8)
		for _, policy := range policies() {
			good.policy = policy
			s.wantRefused(t, fmt.Sprintf("%.10q", bad), good, api.ErrCache, api.ID{})
			s.wantRefused(t, "nothing asked", asked{good.source, nil, nil, policy}, api.ErrCache, api.ID{})
			s.wantRefused(t, "no blobs", asked{reach.Map{}, good.results, good.need, policy}, api.ErrCache, api.ID{})
		}
		for what, a := range noArguments(8) {
			s.wantRefused(t, what, a, api.ErrArg, api.ID{})
		}
	}
}

// dimming is a source that ends the power of a disk when it is asked.
type dimming struct {
	t     testing.TB
	store *store
	inner reach.Source
}

func (d dimming) Get(id api.ID) ([]byte, error) {
	if !d.store.disk.Off() {
		d.store.darken(d.t)
	}
	return d.inner.Get(id)
}

// A disk whose power goes off while the source is asked is off from then on.
func TestW1_OffWhileTheSourceIsAsked(t *testing.T) {
	for _, blobs := range [][]string{nil, {"crate", "pallet", ""}} {
		s := stored(t, 8, blobs, nil)
		good := goodAsked(8)
		good.source = dimming{t, s, good.source}
		change, err := s.ask(good)
		wantFault(t, "dimming", err, "a", api.ErrOff, api.ID{})
		if change.Adds != nil || change.Table != nil {
			t.Errorf("%v beside an error", change)
		}
	}
}
