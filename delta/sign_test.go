package delta_test

import (
	"fmt"
	"testing"

	"freight/api"
)

func TestP18_1_Widths(t *testing.T) {
	base := row("ABCDx")
	for width := 1; width <= api.MaxWidth; width++ {
		s := mustSign(t, width, base, 16)
		wantSign(t, "each width", width, base, 16)
		for _, id := range []api.ID{s.Base, s.Blocks[0].ID, s.Blocks[3].ID} {
			for k := width; k < len(id); k++ {
				if id[k] != 0 {
					t.Errorf("width %d: an id is %x", width, id)
				}
			}
		}
	}
	for _, width := range noWidths() {
		wantNoSign(t, width, base, 16, api.ErrArg)
		wantNoSign(t, width, nil, 4096, api.ErrArg)
	}
}

func TestP18_1_Sizes(t *testing.T) {
	base := letters(noise(), 9000, 256)
	for _, size := range sizes() {
		wantSign(t, "each size", 32, base, size)
	}
	for _, size := range noSizes() {
		wantNoSign(t, 32, base, size, api.ErrArg)
		wantNoSign(t, 1, nil, size, api.ErrArg)
	}
}

// Bytes behind the last whole block are in the base's id, and in no block.
func TestP18_1_BehindTheLastBlock(t *testing.T) {
	r := noise()
	for _, size := range sizes() {
		for _, blocks := range []int{0, 1, 2, 5} {
			for _, more := range []int{0, 1, 2, size / 2, size - 1} {
				base := letters(r, blocks*size+more, 256)
				s := mustSign(t, 32, base, size)
				if s.Width != 32 || s.Size != size || s.Length != len(base) || len(s.Blocks) != blocks || s.Base != idByWords(32, base) {
					t.Errorf("%d bytes by %d: %s", len(base), size, shownSignature(s))
				}
				wantSign(t, "behind the last block", 32, base, size)
			}
		}
	}
}

func TestP18_1_NoBytes(t *testing.T) {
	for _, width := range widths() {
		for _, base := range [][]byte{nil, {}} {
			s := mustSign(t, width, base, 16)
			if want := (api.Signature{Width: width, Size: 16, Base: idByWords(width, nil)}); !likeSignature(s, want) {
				t.Errorf("width %d: %s", width, shownSignature(s))
			}
		}
	}
}

func TestP18_1_MaxFile(t *testing.T) {
	long := letters(noise(), api.MaxFile+2, 256)
	for _, size := range []int{64, 65, 4096} {
		wantSign(t, "MaxFile", 2, long[:api.MaxFile], size)
		if s := mustSign(t, 2, long[:api.MaxFile], size); len(s.Blocks) != api.MaxFile/size {
			t.Errorf("by %d: %d blocks", size, len(s.Blocks))
		}
		wantNoSign(t, 2, long[:api.MaxFile+1], size, api.ErrLong)
		wantNoSign(t, 2, long, size, api.ErrLong)
	}
}

func TestP18_1_MaxParts(t *testing.T) {
	long := letters(noise(), api.MaxFile, 256)
	for _, size := range []int{16, 17, 63} {
		most := (api.MaxParts+1)*size - 1
		for _, n := range []int{api.MaxParts * size, api.MaxParts*size + 1, most} {
			if s := mustSign(t, 32, long[:n], size); len(s.Blocks) != api.MaxParts {
				t.Errorf("%d bytes by %d: %d blocks", n, size, len(s.Blocks))
			}
		}
		wantSign(t, "MaxParts", 32, long[:most], size)
		wantNoSign(t, 32, long[:most+1], size, api.ErrParts)
		wantNoSign(t, 32, long, size, api.ErrParts)
	}
}

func TestP18_1_TheFirstErrorIsTold(t *testing.T) {
	long := make([]byte, api.MaxFile+1)
	wantNoSign(t, 0, long, 16, api.ErrArg)
	wantNoSign(t, 33, long, 64, api.ErrArg)
	wantNoSign(t, 32, long, 15, api.ErrArg)
	wantNoSign(t, 32, long, 4097, api.ErrArg)
	wantNoSign(t, 0, long[:api.MaxFile], 16, api.ErrArg) // 8192 blocks
	wantNoSign(t, 32, long[:api.MaxFile], 15, api.ErrArg)
	wantNoSign(t, 32, long, 16, api.ErrLong) // 8192 blocks
}

func TestP18_1_Drawn(t *testing.T) {
	r := noise()
	for k := range 300 {
		base := letters(r, r.IntN(1<<r.IntN(14)), 1+r.IntN(256))
		wantSign(t, fmt.Sprint("drawn ", k), 1+r.IntN(32), base, 16+r.IntN(1<<r.IntN(12)))
	}
}
