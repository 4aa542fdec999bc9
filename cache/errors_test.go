package cache_test

import (
	"errors"
	"testing"

	"freight/api"
	"freight/cache"
)

// refusal is a call that is refused: by its fault, and by the lower call whose
// fault lies beneath.
type refusal struct {
	op, name string
	id       api.ID
	want     api.Errno
	lower    string
	call     func() error
}

// only is the error of a call that tells something too.
func only[T any](_ T, err error) error { return err }

// refusals are all errors of all calls.
func refusals(t *testing.T) []refusal {
	one, two := clash()
	zero, pallet := api.ID{}, id1("pallet")
	tree := treeOf()
	ok := res(1, id1(tree), 0)
	_, dark := off(t, blob("pallet"), of("c.a.import", ""))
	d, c := made(t, blob("pallet"), blob(one), blob(tree), blob(circle()), damage("crate", "damage"), of("c.a.table", tableOf(actions(32, pallet)...)))
	_, open := made(t, of("c.a.import", ""))
	_, bad := made(t, of("c.a.table", "\x09"))
	_, most := made(t, fullOf(t, 128, "pallet")...)
	_, noRoom := full(t, api.ErrFull, blob(tree), blob("pallet"), damage("crate", "x"))
	_, noFiles := full(t, api.ErrFiles, blob(tree), blob("pallet"), damage("crate", "x"))
	cut := func(n int) *cache.Cache {
		w, c := made(t, blob("pallet"), blob(tree))
		w.Plan(api.Plan{Off: n})
		return c
	}
	drafts := mustLoad(t, 100, of("+c.a.table", "x"))
	drafts.Plan(api.Plan{Off: 2})
	return []refusal{
		{"cache.open", "a b", zero, api.ErrName, "", func() error { return only(cache.Open(d, "a b", 1)) }},
		{"cache.open", "", zero, api.ErrName, "", func() error { return only(cache.Open(nil, "", 77)) }},
		{"cache.open", "a", zero, api.ErrArg, "", func() error { return only(cache.Open(d, "a", 0)) }},
		{"cache.open", "b", zero, api.ErrOff, "", func() error { return only(cache.Open(nil, "b", 1)) }},
		{"cache.open", "a", zero, api.ErrOff, "file.clean", func() error { return only(cache.Open(drafts, "a", 1)) }},
		{"cache.get", "a", zero, api.ErrOff, "", func() error { return only(dark.Get(pallet)) }},
		{"cache.get", "a", api.ID{31: 1}, api.ErrNoBlob, "", func() error { return only(c.Get(api.ID{31: 1})) }},
		{"cache.get", "a", id1("crate"), api.ErrDamage, "", func() error { return only(c.Get(id1("crate"))) }},
		{"cache.blobs", "a", zero, api.ErrOff, "", func() error { return only(dark.Blobs()) }},
		{"cache.table", "a", zero, api.ErrOff, "", func() error { return only(dark.Table()) }},
		{"cache.table", "a", zero, api.ErrCache, "", func() error { return only(bad.Table()) }},
		{"cache.all", "a", zero, api.ErrOff, "", func() error { return only(dark.All()) }},
		{"cache.all", "a", zero, api.ErrCache, "", func() error { return only(bad.All()) }},
		{"cache.put", "a", zero, api.ErrLong, "", func() error { return only(c.Put(make([]byte, 4097))) }},
		{"cache.put", "a", zero, api.ErrOff, "", func() error { return only(dark.Put(nil)) }},
		{"cache.put", "a", zero, api.ErrOpen, "", func() error { return only(open.Put(nil)) }},
		{"cache.put", "a", id1(two), api.ErrCollision, "", func() error { return only(c.Put([]byte(two))) }},
		{"cache.put", "a", zero, api.ErrBlobs, "", func() error { return only(most.Put([]byte("pallet"))) }},
		{"cache.put", "a", zero, api.ErrFull, "file.put", func() error { return only(noRoom.Put([]byte("crate"))) }},
		{"cache.put", "a", zero, api.ErrFiles, "file.put", func() error { return only(noFiles.Put([]byte("crate"))) }},
		{"cache.put", "a", zero, api.ErrOff, "file.put", func() error { return only(cut(5).Put([]byte("crate"))) }},
		{"cache.lay", "a", zero, api.ErrLong, "", func() error { return only(c.Lay(make([]byte, 4097))) }},
		{"cache.lay", "a", zero, api.ErrOff, "", func() error { return only(dark.Lay(nil)) }},
		{"cache.lay", "a", id1(two), api.ErrCollision, "", func() error { return only(c.Lay([]byte(two))) }},
		{"cache.lay", "a", zero, api.ErrBlobs, "", func() error { return only(most.Lay([]byte("pallet"))) }},
		{"cache.lay", "a", zero, api.ErrFull, "file.put", func() error { return only(noRoom.Lay([]byte("crate"))) }},
		{"cache.lay", "a", zero, api.ErrFiles, "file.put", func() error { return only(noFiles.Lay([]byte("crate"))) }},
		{"cache.lay", "a", zero, api.ErrOff, "file.put", func() error { return only(cut(1).Lay([]byte("crate"))) }},
		{"cache.set", "a", zero, api.ErrArg, "", func() error { return c.Set(res(1, pallet, -1)) }},
		{"cache.set", "a", zero, api.ErrOff, "", func() error { return dark.Set(ok) }},
		{"cache.set", "a", zero, api.ErrOpen, "", func() error { return open.Set(ok) }},
		{"cache.set", "a", zero, api.ErrCache, "", func() error { return bad.Set(ok) }},
		{"cache.set", "a", pallet, api.ErrNoTree, "reach.need", func() error { return c.Set(res(1, pallet, 0)) }},
		{"cache.set", "a", id1(circle()), api.ErrDeep, "reach.need", func() error { return c.Set(res(1, id1(circle()), 0)) }},
		{"cache.set", "a", id1("crate"), api.ErrMissing, "reach.need", func() error { return c.Set(res(1, id1("crate"), 0)) }},
		{"cache.set", "a", zero, api.ErrActions, "", func() error { return c.Set(ok) }},
		{"cache.set", "a", zero, api.ErrFull, "file.put", func() error { return noRoom.Set(ok) }},
		{"cache.set", "a", zero, api.ErrFiles, "file.put", func() error { return noFiles.Set(ok) }},
		{"cache.set", "a", zero, api.ErrOff, "file.put", func() error { return cut(3).Set(ok) }},
		{"cache.drop", "a", zero, api.ErrOff, "", func() error { return dark.Drop(pallet) }},
		{"cache.drop", "a", zero, api.ErrOpen, "", func() error { return open.Drop(pallet) }},
		{"cache.drop", "a", api.ID{31: 1}, api.ErrNoBlob, "", func() error { return c.Drop(api.ID{31: 1}) }},
		{"cache.drop", "a", zero, api.ErrOff, "file.drop", func() error { return cut(2).Drop(pallet) }},
		{"cache.swap", "a", zero, api.ErrArg, "", func() error { return c.Swap(actions(33, zero)) }},
		{"cache.swap", "a", zero, api.ErrOff, "", func() error { return dark.Swap(nil) }},
		{"cache.swap", "a", zero, api.ErrFull, "file.put", func() error { return noRoom.Swap(actions(1, zero)) }},
		{"cache.swap", "a", zero, api.ErrFiles, "file.put", func() error { return noFiles.Swap(actions(1, zero)) }},
		{"cache.swap", "a", zero, api.ErrOff, "file.put", func() error { return cut(4).Swap(actions(1, zero)) }},
	}
}

func TestErrors_EachIsAFault(t *testing.T) {
	for _, r := range refusals(t) {
		err := r.call()
		wantFault(t, r.op, err, r.op, r.name, r.id, r.want)
		var errno api.Errno
		if !errors.As(err, &errno) || errno != r.want {
			t.Errorf("%s: errors.As finds %d, want %d", r.op, errno, r.want)
		}
	}
}

// What a Put, a Drop, a Clean, a Need said lies beneath, and is found.
func TestErrors_WrapTheLowerFault(t *testing.T) {
	for _, r := range refusals(t) {
		if r.lower == "" {
			continue
		}
		var lower *api.Fault
		if err := errors.Unwrap(r.call()); !errors.As(err, &lower) {
			t.Errorf("%s, %d: beneath lies %v (%T)", r.op, r.want, err, err)
			continue
		}
		if lower.Op != r.lower || lower.ID != r.id || !errors.Is(lower, r.want) {
			t.Errorf("%s: beneath lies %q %s %v, want %q %s %d", r.op, lower.Op, short(lower.ID), lower.Err, r.lower, short(r.id), r.want)
		}
	}
}

// Each refusal has its own fault: one may be written over, another is as it was.
func TestErrors_FaultsAreNew(t *testing.T) {
	_, c := made(t)
	one, other := c.Drop(id1("x")), c.Drop(id1("x"))
	*one.(*api.Fault) = api.Fault{Op: "z", Name: "z", Err: api.ErrArg}
	wantFault(t, "another", other, "cache.drop", "a", id1("x"), api.ErrNoBlob)
	wantDrop(t, c, id1("x"), id1("x"), api.ErrNoBlob)
}

// An answer that is OK is nil, not a fault that says nothing.
func TestErrors_OKIsNil(t *testing.T) {
	files, root := stock()
	_, c := made(t, files...)
	answers := []error{only(c.Get(root)), only(c.Blobs()), only(c.Table()), only(c.All()), only(c.Put(nil)), only(c.Put(nil)), only(c.Lay(nil)), c.Set(res(1, root, 0)), c.Set(res(1, root, 0)), c.Drop(root), c.Swap(nil), c.Swap(nil)}
	for i, err := range answers {
		if err != nil {
			t.Errorf("answer %d: %v (%T)", i, err, err)
		}
	}
}

// The name of the cache, however long; of Open as it was handed in.
func TestErrors_Names(t *testing.T) {
	for _, name := range []string{"a", "-", times(32, "z")} {
		c := mustOpen(t, mustLoad(t, 100), name, 32)
		wantFault(t, "Get", only(c.Get(api.ID{1})), "cache.get", name, api.ID{1}, api.ErrNoBlob)
		wantFault(t, "Swap", c.Swap(actions(33, api.ID{})), "cache.swap", name, api.ID{}, api.ErrArg)
	}
	for _, name := range []string{"", "\xff", "c.a.", times(1000, "long ")} {
		wantNotOpened(t, mustLoad(t, 100), name, 1, api.ErrName)
	}
}
