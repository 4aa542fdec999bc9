package reach_test

import (
	"bytes"
	"testing"

	"freight/api"
	"freight/reach"
)

func wantGot(t *testing.T, m reach.Map, id api.ID, want []byte) {
	t.Helper()
	data, err := m.Get(id)
	if err != nil || !bytes.Equal(data, want) {
		t.Errorf("Get(%s): % x, %v; want % x", told(id), data, err, want)
	}
}

func wantNotGot(t *testing.T, m reach.Map, id api.ID) {
	t.Helper()
	data, err := m.Get(id)
	wantFault(t, "Get", err, "reach.get", id, api.ErrNoBlob)
	if data != nil {
		t.Errorf("Get(%s): refused, but it tells % x", told(id), data)
	}
}

func TestP9_1_BytesOfAnID(t *testing.T) {
	long := bytes.Repeat([]byte("crate"), 2000)
	for _, data := range [][]byte{{0}, []byte("crate"), treeOf("a"), long, long[:4097]} {
		for _, id := range []api.ID{{}, {1}, {31: 1}, {0: 255, 31: 255}} {
			wantGot(t, reach.Map{id: data, {7}: []byte("other")}, id, data)
		}
	}
}

// No bytes are bytes, nil too: the id is there.
func TestP9_1_NoBytes(t *testing.T) {
	m := reach.Map{letter("a"): {}, letter("b"): nil, {}: nil}
	for _, id := range append(letters("ab"), api.ID{}) {
		wantGot(t, m, id, nil)
	}
	wantNeed(t, with(m, letter("r"), treeOf("a", "b*")), roots("r"), letters("abr"))
	wantNoNeed(t, m, roots("b"), api.ErrNoTree, letter("b"))
	wantLacks(t, m, roots("ab"), nil)
}

func TestP9_1_NotThere(t *testing.T) {
	m := reach.Map{letter("a"): []byte("x"), {31: 1}: []byte("y")}
	for _, id := range []api.ID{{}, letter("b"), {'a', 1}, {0: 'a', 31: 1}, {31: 2}} {
		wantNotGot(t, m, id)
	}
}

func TestP9_1_NilAndEmptyMaps(t *testing.T) {
	for _, m := range []reach.Map{nil, {}} {
		wantNotGot(t, m, letter("a"))
		wantNotGot(t, m, api.ID{})
		wantNoNeed(t, m, roots("ba"), api.ErrMissing, letter("a"))
		wantLacks(t, m, roots("ba"), letters("ab"))
		wantNeed(t, m, nil, nil)
	}
}

func TestP9_1_NewMemory(t *testing.T) {
	kept := roomyBytes([]byte("crate"))
	m := reach.Map{letter("a"): kept}
	first, _ := m.Get(letter("a"))
	second, _ := m.Get(letter("a"))
	scribbleBytes(first)
	if !bytes.Equal(kept[:cap(kept)], roomyBytes([]byte("crate"))[:cap(kept)]) {
		t.Errorf("Get: an answer written over changes the Map: %q", kept[:cap(kept)])
	}
	scribbleBytes(kept)
	if string(second) != "crate" {
		t.Errorf("Get: all else written over: %q", second)
	}
	if got := second[:cap(second)]; bytes.Contains(got, []byte("spare")) {
		t.Errorf("Get: the room behind the Map's bytes is handed out: %q", got)
	}
}

func TestP9_1_NoBytesShareNothing(t *testing.T) {
	room := []byte("spare")
	m := reach.Map{letter("a"): room[:0]}
	data, err := m.Get(letter("a"))
	if err != nil || len(data) != 0 {
		t.Fatalf("Get: %q, %v", data, err)
	}
	_ = append(data, "xxxxx"...)
	if string(room) != "spare" {
		t.Errorf("Get: what stands behind no bytes is %q", room)
	}
}

func TestP9_1_FaultsAreNew(t *testing.T) {
	_, first := reach.Map(nil).Get(letter("a"))
	_, second := reach.Map(nil).Get(letter("a"))
	*first.(*api.Fault) = api.Fault{Op: "z", Name: "z", ID: letter("z"), Err: api.ErrArg}
	wantFault(t, "another", second, "reach.get", letter("a"), api.ErrNoBlob)
	wantNotGot(t, nil, letter("a"))
}
