package block_test

import (
	"bytes"
	"slices"
	"testing"

	"freight/api"
	"freight/block"
	"freight/code"
)

func TestExamplesPack(t *testing.T) {
	packed, blocks, errno := block.Pack(nil, 16)
	if errno != api.OK || len(packed) != 0 || len(blocks) != 0 {
		t.Errorf("no bytes, 16: %x, %v, %d", packed, blocks, errno)
	}
	wantNoPack(t, nil, 15, api.ErrArg)
	wantNoPack(t, nil, 4097, api.ErrArg)
	wantNoPack(t, make([]byte, 65537), 16, api.ErrLong)

	row := unlike(20)
	packed, blocks, errno = block.Pack(row, 16)
	want := []api.Block{{At: 0, Packed: 16, Raw: 16, Sum: code.Sum(row[:16])}, {At: 16, Packed: 4, Raw: 4, Sum: code.Sum(row[16:])}}
	if errno != api.OK || !bytes.Equal(packed, row) || !slices.Equal(blocks, want) {
		t.Errorf("20 unlike bytes, 16: %x, %v, %d", packed, blocks, errno)
	}
}

func TestExamplesOpen(t *testing.T) {
	ab, abc := []byte("ab"), []byte("abc")
	wantNoOpen(t, "nothing", nil, api.Block{})
	wantOpen(t, "ab", ab, api.Block{Packed: 2, Raw: 2, Sum: code.Sum(ab)}, ab)
	wantNoOpen(t, "ab, another sum", ab, api.Block{Packed: 2, Raw: 2, Sum: 0})
	wantNoOpen(t, "abc, of two bytes", abc, api.Block{Packed: 3, Raw: 2, Sum: code.Sum(abc)})
}

func TestExamplesValid(t *testing.T) {
	wantValid(t, "none", nil, 0, 16, true)
	wantValid(t, "none", nil, 1, 16, false)
	wantValid(t, "none", nil, 0, 0, false)
}

func TestExamplesCover(t *testing.T) {
	wantCover(t, 16, 0, 1, 0, 1)
	wantCover(t, 16, 15, 2, 0, 2)
	wantCover(t, 16, 16, 16, 1, 2)
	wantCover(t, 16, 5, 40, 0, 3)
	wantCover(t, 16, 3, 0, 0, 0)
	wantCover(t, 16, -1, 5, 0, 0)
	wantCover(t, 8, 0, 5, 0, 0)
}
