package plan_test

import (
	"bytes"
	"errors"
	"fmt"
	"slices"
	"testing"

	"freight/api"
	"freight/bundle"
	"freight/reach"
	"freight/reader"
)

func TestP15_1_NothingUnderAnID(t *testing.T) {
	for _, width := range []int{1, 8, 32} {
		blobs := numbered(width, 5)
		s := stored(t, width, nil, nil)
		for k, blob := range blobs {
			m, need := mapOf(width, blobs...)
			delete(m, idOf(width, blob))
			s.wantRefused(t, fmt.Sprint("without ", k), asked{m, nil, need, api.Keep}, api.ErrNoBlob, need[k])
			s.wantRefused(t, "alone", asked{m, nil, need[k : k+1], api.Keep}, api.ErrNoBlob, need[k])
		}
		_, need := mapOf(width, blobs...)
		s.wantRefused(t, "an empty Map", asked{reach.Map{}, nil, need, api.Keep}, api.ErrNoBlob, need[0])
		s.wantRefused(t, "a nil Map", asked{reach.Map(nil), nil, need[2:], api.Keep}, api.ErrNoBlob, need[2])
	}
}

// That an id is there in the cache says nothing of the source.
func TestP15_1_NothingUnderAnIDThatIsThere(t *testing.T) {
	blobs := numbered(8, 3)
	s := stored(t, 8, blobs, nil)
	m, need := mapOf(8, blobs...)
	delete(m, need[1])
	s.wantRefused(t, "without the second", asked{m, nil, need, api.Keep}, api.ErrNoBlob, need[1])
	m[need[1]] = []byte("another")
	s.wantRefused(t, "another", asked{m, nil, need, api.Keep}, api.ErrDigest, need[1])
}

// wrapping is an error with an error in it.
type wrapping struct{ inner error }

func (w wrapping) Error() string { return "wrapped" }
func (w wrapping) Unwrap() error { return w.inner }

// hiding says its number to whoever asks with errors.As alone.
type hiding struct{ number api.Errno }

func (h hiding) Error() string { return "hiding" }

func (h hiding) As(target any) bool {
	errno, is := target.(*api.Errno)
	if is {
		*errno = h.number
	}
	return is
}

// wrapped is an error in all kinds of wrapping.
func wrapped(err error) []error {
	return []error{
		err,
		wrapping{err},
		wrapping{wrapping{wrapping{err}}},
		&api.Fault{Op: "cache.get", Name: "c", ID: api.ID{77}, Err: err},
		&api.Fault{Err: &api.Fault{Op: "file.get", ID: api.ID{78}, Err: wrapping{err}}},
		fmt.Errorf("told of %w", err),
		errors.Join(err, errors.New("and more")),
		errors.Join(errors.New("ahead of it"), err),
	}
}

// Every number of an error, wrapped and not: above 0 it is answered, with the id
// of need, whatever id the source's fault names.
func TestP15_1_NumbersOfTheSource(t *testing.T) {
	s := stored(t, 8, []string{"crate"}, nil)
	good := goodAsked(8)
	for number := api.Errno(-3); number < 200; number++ {
		want := number
		if number < 1 {
			want = api.ErrMissing
		}
		for _, err := range append(wrapped(number), hiding{number}, wrapping{hiding{number}}) {
			for k, id := range good.need {
				a := good
				a.source = refusing(good.source, err, id)
				s.wantRefused(t, fmt.Sprint(number, " of ", k), a, want, id)
				_, answer := s.ask(a)
				if !errors.Is(answer, err) {
					t.Errorf("%d: %v is not found in %v", number, err, answer)
				}
			}
		}
	}
	a := good
	a.source = refusing(good.source, api.Errno(1<<40), good.need[0])
	s.wantRefused(t, "a number that is none of the list", a, 1<<40, good.need[0])
	a.source = refusing(good.source, api.Errno(-1<<40), good.need[0])
	s.wantRefused(t, "a number far below 1", a, api.ErrMissing, good.need[0])
}

// many cannot be held against another by ==.
type many []string

func (m many) Error() string { return "many" }

// An error that has no number is ErrMissing, and is found still.
func TestP15_1_ErrorsWithoutANumber(t *testing.T) {
	s := stored(t, 8, nil, nil)
	good := goodAsked(8)
	list := append(wrapped(errors.New("no line")), (*api.Fault)(nil), &api.Fault{}, wrapping{}, many{"x"}, &api.Fault{Err: many{"y"}}, fmt.Errorf("nothing in it"))
	for _, err := range list {
		for k, id := range good.need {
			a := good
			a.source = refusing(good.source, err, good.need[k:]...)
			s.wantRefused(t, fmt.Sprintf("%T", err), a, api.ErrMissing, id)
			_, answer := s.ask(a)
			var cannot many
			if !errors.As(answer, &cannot) && !errors.Is(answer, err) {
				t.Errorf("%T is not found in %v", err, answer)
			}
			if beneath := errors.Unwrap(answer); !errors.Is(answer, beneath) {
				t.Errorf("%v is not found", beneath)
			}
		}
	}
}

// The number that counts is the first one: what is joined behind it says no more.
func TestP15_1_TheFirstNumberCounts(t *testing.T) {
	s := stored(t, 8, nil, nil)
	good := goodAsked(8)
	for _, x := range []struct {
		err  error
		want api.Errno
	}{
		{errors.Join(api.ErrBlock, api.ErrNoBlob), api.ErrBlock},
		{errors.Join(errors.New("none"), api.ErrDamage, api.ErrBlock), api.ErrDamage},
		{errors.Join(api.OK, api.ErrBlock), api.ErrMissing},
		{errors.Join(api.Errno(-1), api.ErrBlock), api.ErrMissing},
	} {
		a := good
		a.source = refusing(good.source, x.err, good.need[1])
		if code := api.Code(x.err); code != x.want && code >= 1 {
			t.Fatalf("%v has the number %d", x.err, code)
		}
		s.wantRefused(t, x.err.Error(), a, x.want, good.need[1])
	}
}

func TestP15_1_LongBytes(t *testing.T) {
	for _, width := range []int{1, 2, 32} {
		s := stored(t, width, nil, nil)
		full, above := times(api.MaxBlob, "x"), times(api.MaxBlob+1, "x")
		m, need := mapOf(width, full)
		s.wantChange(t, "as long as may be", asked{m, nil, need, api.Keep}, need, nil)
		m, need = mapOf(width, above)
		s.wantRefused(t, "one more, of its id", asked{m, nil, need, api.Keep}, api.ErrLong, need[0])
		m[need[0]] = []byte(times(api.MaxBlob+1, "y"))
		s.wantRefused(t, "one more, of another id", asked{m, nil, need, api.Keep}, api.ErrLong, need[0])
		m[need[0]] = make([]byte, 1<<20)
		s.wantRefused(t, "far longer", asked{m, nil, need, api.Keep}, api.ErrLong, need[0])
	}
}

func TestP15_1_AnotherID(t *testing.T) {
	for _, width := range []int{1, 2, 8, 31, 32} {
		s := stored(t, width, nil, nil)
		m, need := mapOf(width, "crate", "pallet", "")
		for k, id := range need {
			for _, other := range []string{"other", "another", times(api.MaxBlob, "z"), string(m[id]) + "\x00"} {
				spoilt := reach.Map{need[0]: m[need[0]], need[1]: m[need[1]], need[2]: m[need[2]]}
				spoilt[id] = []byte(other)
				s.wantRefused(t, fmt.Sprintf("%d: %.10q", k, other), asked{spoilt, nil, need, api.Keep}, api.ErrDigest, id)
			}
		}
	}
}

// No bytes, as a nil list or an empty one, are the empty blob.
func TestP15_1_NoBytes(t *testing.T) {
	s := stored(t, 32, nil, nil)
	empty, crate := idOf(32, ""), idOf(32, "crate")
	for _, none := range [][]byte{nil, {}} {
		s.wantChange(t, "the empty blob", asked{reach.Map{empty: none}, nil, []api.ID{empty}, api.Keep}, []api.ID{empty}, nil)
		s.wantChange(t, "lent", asked{lending{empty: none}, nil, []api.ID{empty}, api.Keep}, []api.ID{empty}, nil)
		s.wantRefused(t, "of a crate", asked{lending{crate: none}, nil, []api.ID{crate}, api.Keep}, api.ErrDigest, crate)
	}
}

// The width that counts is the cache's: an id of another one is not that of the
// bytes, though these are what it was made of.
func TestP15_1_IDsOfAnotherWidth(t *testing.T) {
	for _, width := range []int{1, 2, 8, 31, 32} {
		s := stored(t, width, nil, nil)
		for _, other := range []int{1, 2, 8, 31, 32} {
			m, need := mapOf(other, "crate")
			if other == width {
				s.wantChange(t, "its own width", asked{m, nil, need, api.Keep}, need, nil)
				continue
			}
			s.wantRefused(t, fmt.Sprint(width, ", ", other), asked{m, nil, need, api.Keep}, api.ErrDigest, need[0])
		}
	}
}

// In a narrow width an id with one bit behind the width is never there, though
// there be a file of that name.
func TestP15_1_ABitBehindTheWidth(t *testing.T) {
	id := idOf(2, "crate")
	id[31] = 1
	s := stored(t, 2, []string{"crate"}, nil, of(blobName("a", id), "crate"))
	s.wantRefused(t, "a bit", asked{reach.Map{id: []byte("crate")}, nil, []api.ID{id}, api.Keep}, api.ErrDigest, id)
}

// offence is what a source says of an id.
type offence struct {
	want api.Errno
	err  error
	data string
}

func offences() []offence {
	return []offence{
		{want: api.ErrNoBlob, err: &api.Fault{Op: "x.get", ID: api.ID{5}, Err: api.ErrNoBlob}},
		{want: api.ErrMissing, err: errors.New("no line")},
		{want: api.ErrBlock, err: wrapping{api.ErrBlock}},
		{want: api.ErrLong, data: times(api.MaxBlob+1, "l")},
		{want: api.ErrDigest, data: "of another id"},
	}
}

// Several ids that offend: the least one is named, whatever it is; behind it the
// source is not asked.
func TestP15_1_TheLeastThatOffends(t *testing.T) {
	list := offences()
	blobs := numbered(8, 6)
	s := stored(t, 8, blobs[:2], nil)
	for first, x := range list {
		for second, y := range list {
			for at := range 4 {
				m, need := mapOf(8, blobs...)
				f := failing{m, map[api.ID]error{}}
				for k, o := range []offence{x, y} {
					if o.err != nil {
						f.errs[need[at+k*2]] = o.err
					} else {
						m[need[at+k*2]] = []byte(o.data)
					}
				}
				l := &listener{inner: f}
				s.wantRefused(t, fmt.Sprint(first, " ", second, " at ", at), asked{l, nil, need, api.Keep}, x.want, need[at])
				if !slices.Equal(l.heard, need[:at+1]) {
					t.Errorf("asked for %s, want %s", told(l.heard), told(need[:at+1]))
				}
			}
		}
	}
}

// Each id is asked for once, by rising ids; none where an argument or the cache
// refuses ahead of it.
func TestP15_1_WhatIsAskedFor(t *testing.T) {
	blobs := numbered(8, 20)
	s := stored(t, 8, blobs[5:12], nil)
	m, need := mapOf(8, blobs...)
	l := &listener{inner: m}
	if _, err := s.ask(asked{l, nil, need, api.Keep}); err != nil || !slices.Equal(l.heard, need) {
		t.Errorf("asked for %s, %v", told(l.heard), err)
	}
	l.heard = nil
	s.ask(asked{l, nil, need, 4})
	s.hand(t, "c.a.table", "no table")
	s.ask(asked{l, nil, need, api.Keep})
	s.darken(t)
	s.ask(asked{l, nil, need, api.Keep})
	if l.heard != nil {
		t.Errorf("asked for %s", told(l.heard))
	}
}

// A cache is a source: another one, and the same one.
func TestP15_1_ACacheAsTheSource(t *testing.T) {
	blobs := numbered(8, 4)
	s := stored(t, 8, blobs[:2], nil)
	_, need := mapOf(8, blobs...)
	other := opened(t, s.disk, "b", 8)
	for _, b := range blobs {
		if _, err := other.cache.Put([]byte(b)); err != nil {
			t.Fatal(err)
		}
	}
	s.wantChange(t, "another cache", asked{other.cache, nil, need, api.Keep}, need[2:], nil)
	s.wantChange(t, "the same cache", asked{s.cache, nil, need[:2], api.Keep}, nil, nil)
	s.wantRefused(t, "the same cache", asked{s.cache, nil, need, api.Keep}, api.ErrNoBlob, need[2])
	other.damage(t, need[3], "spoilt")
	s.wantRefused(t, "damage in the source", asked{other.cache, nil, need, api.Keep}, api.ErrDamage, need[3])
	wide := opened(t, s.disk, "wide", 32)
	if _, err := wide.cache.Put([]byte(blobs[0])); err != nil {
		t.Fatal(err)
	}
	s.wantRefused(t, "a wider source", asked{wide.cache, nil, idsOf(32, blobs[0]), api.Keep}, api.ErrDigest, idOf(32, blobs[0]))
}

// So is a bundle on the same disk, good or not.
func TestP15_1_ABundleAsTheSource(t *testing.T) {
	blobs := numbered(8, 6)
	var rows [][]byte
	for _, b := range blobs {
		rows = append(rows, []byte(b))
	}
	data, err := bundle.Make(8, nil, rows, 16)
	if err != nil {
		t.Fatal(err)
	}
	s := stored(t, 8, blobs[1:3], nil, api.FileBytes{Name: "f.b", Data: data})
	r, err := reader.Open(s.disk, "f.b", 8)
	if err != nil {
		t.Fatal(err)
	}
	_, need := mapOf(8, blobs...)
	adds := slices.Concat(need[:1], need[3:])
	s.wantChange(t, "a bundle", asked{r, nil, need, api.Keep}, adds, nil)
	s.wantRefused(t, "what it lacks", asked{r, nil, []api.ID{{}}, api.Keep}, api.ErrNoBlob, api.ID{})
	last := r.Face().Blocks[len(r.Face().Blocks)-1]
	spoilt := bytes.Clone(data)
	spoilt[last.At] ^= 1
	s.hand(t, "f.b", string(spoilt))
	s.wantRefused(t, "a spoilt block", asked{r, nil, need, api.Keep}, api.ErrBlock, need[5])
	if err := s.disk.Remove("f.b"); err != api.OK {
		t.Fatal(err)
	}
	s.wantRefused(t, "no file", asked{r, nil, need, api.Keep}, api.ErrNone, need[0])
	zero := &reader.Reader{}
	if _, err := zero.Get(need[0]); err == nil {
		t.Fatal("a zero Reader tells bytes")
	}
	s.wantAsTheWordsSay(t, "a zero Reader", asked{zero, nil, need, api.Keep})
}
