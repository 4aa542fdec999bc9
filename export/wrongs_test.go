package export_test

import (
	"fmt"
	"slices"
	"testing"

	"freight/api"
	"freight/export"
)

// order is what is asked for, of which cache.
type order struct {
	goods   goods
	table   string // by hand
	off     bool
	actions []api.ID
	size    int
}

// wrong is one thing that P14.1 refuses, with the id that it is said of.
type wrong struct {
	want  api.Errno
	id    api.ID
	spoil func(o *order)
}

// ask is another result that is asked for, and what it needs.
func (o *order) ask(action byte, root string, blobs ...string) {
	o.goods = o.goods.with(slices.Concat(blobs, []string{root}), res(action, idOf(32, root), int(action)))
	o.actions = append(o.actions, act(action))
}

// wrongs are all of them, in the order of the list.
func wrongs() []wrong {
	const lacking, noTree = "it lacks", "no tree"
	many, deep := numbered(64), chain(32, api.MaxDepth+1, filesTree(32, "at the bottom"))
	var long []string
	for i := range 16 {
		long = append(long, times(api.MaxBlob/4, fmt.Sprintf("%04d", i)))
	}
	return []wrong{
		{api.ErrArg, api.ID{}, func(o *order) { o.size = 15 }},
		{api.ErrOff, api.ID{}, func(o *order) { o.off = true }},
		{api.ErrCache, api.ID{}, func(o *order) { o.table = "no table" }},
		{api.ErrNoAction, act(77), func(o *order) { o.actions = append(o.actions, act(99), act(77), act(88)) }},
		{api.ErrNoTree, idOf(32, noTree), func(o *order) { o.ask(10, noTree) }},
		{api.ErrDeep, idOf(32, deep[0]), func(o *order) { o.ask(11, deep[api.MaxDepth], append(deep, "at the bottom")...) }},
		{api.ErrMissing, idOf(32, lacking), func(o *order) { o.ask(12, filesTree(32, lacking, crate), crate) }},
		{api.ErrMany, api.ID{}, func(o *order) {
			o.ask(13, filesTree(32, many[:32]...), many[:32]...)
			o.ask(14, filesTree(32, many[32:]...), many[32:]...)
		}},
		{api.ErrBundleLong, api.ID{}, func(o *order) { o.ask(15, filesTree(32, long...), long...) }},
	}
}

// ordered is the cache of an order.
func ordered(t *testing.T, o order) *store {
	t.Helper()
	s := stored(t, o.goods, of("f.b", "a former file"), of("+f.b", "left of a crash"))
	if o.table != "" {
		s.hand(t, "c.a.table", o.table)
	}
	if o.off {
		s.darken(t)
	}
	return s
}

// All sets of what can be wrong: the one that stands first is told, and the words
// say the same; a name that is none stands ahead of them all.
func TestP14_1_TheFirstThatIsWrong(t *testing.T) {
	list := wrongs()
	for set := range 1 << len(list) {
		o := order{goods: stock(32), actions: acts(3), size: 64}
		what := "wrong:"
		first := wrong{}
		for k, w := range list {
			if set>>k&1 == 0 {
				continue
			}
			w.spoil(&o)
			what += fmt.Sprint(" ", w.want)
			if first.want == api.OK {
				first = w
			}
		}
		slices.Reverse(o.actions)
		s := ordered(t, o)
		if got := s.wantBuilt(t, what, o.actions, o.size); got != first.want {
			t.Fatalf("%s: the words say %d", what, got)
		}
		if first.want != api.OK {
			s.wantRefused(t, what, o.actions, o.size, first.want, first.id)
		}
		before := s.disk.Twin()
		for _, name := range []string{"", "+f.b", "F"} {
			err := export.Export(s.cache, o.actions, o.size, name)
			wantFault(t, what+", no name", err, "export.export", "a", api.ErrName, api.ID{})
		}
		wantSameDisk(t, what+", no name", s.disk, before)
		if s.wantExported(t, what, o.actions, o.size, "f.b") != first.want {
			t.Errorf("%s: Export is refused otherwise", what)
		}
	}
}
