package file_test

import (
	"errors"
	"testing"

	"freight/api"
	"freight/disk"
	"freight/file"
)

// refusal is a call that is refused.
type refusal struct {
	op, name string
	want     api.Errno
	call     func() error
}

// refusals are all errors of all calls.
func refusals(t *testing.T) []refusal {
	full := func() *disk.Disk { return mustLoad(t, 5, of("a", "crate")) }
	dark := off(t, of("a", "crate"))
	get := func(d *disk.Disk, name string) error {
		_, err := file.Get(d, name)
		return err
	}
	cut := full()
	cut.Plan(api.Plan{Off: 1})
	again := full()
	again.Plan(api.Plan{Off: 4})
	dropped := full()
	dropped.Plan(api.Plan{Off: 2})
	cleaned := full()
	cleaned.Plan(api.Plan{Off: 2})
	return []refusal{
		{"file.put", "", api.ErrName, func() error { return file.Put(full(), "", nil) }},
		{"file.put", "+a", api.ErrName, func() error { return file.Put(dark, "+a", nil) }},
		{"file.put", "a", api.ErrOff, func() error { return file.Put(dark, "a", nil) }},
		{"file.put", "a", api.ErrFull, func() error { return file.Put(full(), "a", []byte("x")) }},
		{"file.put", "b", api.ErrFiles, func() error { return file.Put(mustLoad(t, 5, many(256)...), "b", nil) }},
		{"file.put", "c", api.ErrOff, func() error { return file.Put(cut, "c", nil) }},
		{"file.put", "d", api.ErrOff, func() error { return file.Put(again, "d", []byte("x")) }},
		{"file.get", "\xff", api.ErrName, func() error { return get(full(), "\xff") }},
		{"file.get", "a", api.ErrOff, func() error { return get(dark, "a") }},
		{"file.get", "+a", api.ErrNone, func() error { return get(full(), "+a") }},
		{"file.drop", times(500, 'x'), api.ErrName, func() error { return file.Drop(full(), times(500, 'x')) }},
		{"file.drop", "a", api.ErrOff, func() error { return file.Drop(dark, "a") }},
		{"file.drop", "b", api.ErrNone, func() error { return file.Drop(full(), "b") }},
		{"file.drop", "a", api.ErrOff, func() error { return file.Drop(dropped, "a") }},
		{"file.clean", "No name", api.ErrOff, func() error { return file.Clean(dark, "No name") }},
		{"file.clean", "", api.ErrOff, func() error { return file.Clean(cleaned, "") }},
	}
}

func TestErrors_EachIsAFault(t *testing.T) {
	for _, r := range refusals(t) {
		err := r.call()
		var fault *api.Fault
		if !errors.As(err, &fault) {
			t.Errorf("%s: %v (%T): no fault", r.op, err, err)
			continue
		}
		if fault.Op != r.op || fault.Name != r.name || fault.ID != (api.ID{}) {
			t.Errorf("%s %q: %q %q %v", r.op, r.name, fault.Op, fault.Name, fault.ID)
		}
		var errno api.Errno
		if !errors.Is(err, r.want) || !errors.As(err, &errno) || errno != r.want || api.Code(err) != r.want {
			t.Errorf("%s %q: %v, want %d", r.op, r.name, err, r.want)
		}
		for _, other := range []api.Errno{api.OK, api.ErrName, api.ErrOff, api.ErrFull, api.ErrFiles, api.ErrNone, api.ErrThere} {
			if other != r.want && errors.Is(err, other) {
				t.Errorf("%s %q: it is %d too", r.op, r.name, other)
			}
		}
	}
}

// An answer that is OK is nil, not a fault that says nothing.
func TestErrors_OKIsNil(t *testing.T) {
	d := mustLoad(t, 100)
	if err := file.Put(d, "a", nil); err != nil {
		t.Errorf("Put: %v", err)
	}
	if _, err := file.Get(d, "a"); err != nil {
		t.Errorf("Get: %v", err)
	}
	if err := file.Drop(d, "a"); err != nil {
		t.Errorf("Drop: %v", err)
	}
	if err := file.Clean(d, ""); err != nil {
		t.Errorf("Clean: %v", err)
	}
}

// Each refusal has its own fault: one may be written over, another is as it was.
func TestErrors_FaultsAreNew(t *testing.T) {
	d := mustLoad(t, 100)
	one, other := file.Drop(d, "a"), file.Drop(d, "a")
	*one.(*api.Fault) = api.Fault{Op: "z", Name: "z", Err: api.ErrArg}
	wantCode(t, "another", other, "file.drop", "a", api.ErrNone)
	wantDrop(t, d, "a", api.ErrNone)
}

func TestW8_NilAndZeroDisks(t *testing.T) {
	for _, d := range []*disk.Disk{nil, {}} {
		for range 2 {
			wantPut(t, d, "a", "x", api.ErrOff)
			wantPut(t, d, "a", "", api.ErrOff)
			wantPut(t, d, "A", "x", api.ErrName)
			wantPut(t, d, "+a", "x", api.ErrName)
			wantNoGet(t, d, "a", api.ErrOff)
			wantNoGet(t, d, "+a", api.ErrOff)
			wantNoGet(t, d, "", api.ErrName)
			wantDrop(t, d, "a", api.ErrOff)
			wantDrop(t, d, "+a", api.ErrOff)
			wantDrop(t, d, "a b", api.ErrName)
			wantClean(t, d, "", api.ErrOff)
			wantClean(t, d, "a b", api.ErrOff)
			if d != nil {
				d.Plan(api.Plan{Off: 5})
			}
			d.Crash(1, 2, 3)
		}
		if d.Strokes() != 0 || d.Used() != 0 || len(d.Files()) != 0 || !d.Off() {
			t.Errorf("%s", all(d))
		}
	}
}

// W1: any text, as a name and as a prefix, on any disk.
func TestW1_AnyTexts(t *testing.T) {
	r := noise()
	for range 500 {
		text := make([]byte, r.IntN(300))
		for i := range text {
			text[i] = byte(r.IntN(256))
		}
		for _, d := range []*disk.Disk{nil, {}, off(t, several()...), mustLoad(t, 100, several()...)} {
			w := words{disk: d.Twin()}
			name := string(text)
			wantPut(t, d, name, name, w.put(name, name))
			if _, errno := w.get(name); errno != api.OK {
				wantNoGet(t, d, name, errno)
			}
			wantDrop(t, d, name, w.drop(name))
			wantClean(t, d, name, w.clean(name))
			if all(d) != all(w.disk) {
				t.Fatalf("%q: %s, want %s", name, all(d), all(w.disk))
			}
		}
	}
}
