package bundle_test

import (
	"bytes"
	"fmt"
	"testing"

	"freight/api"
	"freight/bundle"
	"freight/code"
)

// first is the bundle of nothing, byte by byte as the chapter shows it.
func first() []byte {
	sum := func(data ...byte) []byte {
		v := code.Sum(data)
		return []byte{byte(v >> 24), byte(v >> 16), byte(v >> 8), byte(v)}
	}
	want := []byte{0x66, 0x72, 0x74, 0x20, 0x00, 0x40, 0, 0, 0, 0, 0, 0}
	want = append(want, 0, 0, 0, 6, 0, 0, 0, 4)
	want = append(want, sum(0, 0, 0, 0)...)
	want = append(want, 0, 0, 0, 0x0a, 0, 0, 0, 2)
	want = append(want, sum(0, 0)...)
	return append(want, 0, 0, 0, 0x2b, 0x74, 0x72, 0x66)
}

func TestExamplesMakeOfNothing(t *testing.T) {
	data := mustMake(t, 32, nil, nil, 64)
	if len(data) != 43 || !bytes.Equal(data, first()) {
		t.Errorf("% x\nwant % x", data, first())
	}
}

func TestExamplesMakeOfX(t *testing.T) {
	x := []byte("hi")
	data := mustMake(t, 32, nil, [][]byte{x, x}, 64)
	face, err := bundle.Parse(data, 32)
	if len(data) != 87 || err != nil || len(face.Blobs) != 1 || len(face.Blocks) != 1 {
		t.Fatalf("%d bytes, %s, %v", len(data), shown(face), err)
	}
	want := api.Block{At: 6, Packed: 2, Raw: 2, Sum: code.Sum(x)}
	if face.Blobs[0] != (api.Place{ID: idOf(32, x), N: 2}) || face.Blocks[0] != want {
		t.Errorf("%v, %v", face.Blobs, face.Blocks)
	}
}

func TestExamplesNoArguments(t *testing.T) {
	wantNoMake(t, "width 0", 0, nil, nil, 64, api.ErrArg, api.ID{})
	wantNoMake(t, "size 15", 32, nil, nil, 15, api.ErrArg, api.ID{})
	wantNoMake(t, "results", 32, []api.Result{res(2, api.ID{}, 0), res(1, api.ID{}, 0)}, nil, 64, api.ErrArg, api.ID{})
}

func TestExamplesVerify(t *testing.T) {
	face, err := bundle.Verify(first(), 32)
	if err != nil || !likeFace(face, api.Face{Width: 32, Size: 64, Entries: code.Sum(make([]byte, 4)), Index: code.Sum(make([]byte, 2))}) {
		t.Errorf("%+v, %v", face, err)
	}
	x := []byte("hi")
	face, err = bundle.Verify(mustMake(t, 32, nil, [][]byte{x, x}, 64), 32)
	wantFace(t, "X", face, err, "bundle.verify", api.Face{}, api.ErrExtra, idOf(32, x))
}

func TestExamplesParse(t *testing.T) {
	for _, data := range [][]byte{make([]byte, 42), first()[:42], first()[1:], times(42, 't')} {
		face, err := bundle.Parse(data, 32)
		wantFace(t, fmt.Sprintf("42 bytes, the first %x", data[0]), face, err, "bundle.parse", api.Face{}, api.ErrBundle, api.ID{})
	}
	face, err := bundle.Parse(first(), 31)
	wantFace(t, "width 31", face, err, "bundle.parse", api.Face{}, api.ErrBundle, api.ID{})
}
