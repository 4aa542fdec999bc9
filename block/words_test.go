package block_test

import (
	"hash/crc32"
	"math/big"

	"freight/api"
	"freight/press"
)

// sumByWords is the sum of chapter 1 by another hand.
func sumByWords(data []byte) int { return int(crc32.ChecksumIEEE(data)) }

// packByWords is P11.1, byte by byte: the piece of a block is gathered until it is full or the row ends.
func packByWords(row []byte, size int) ([]byte, []api.Block, api.Errno) {
	if size < 16 || size > 4096 {
		return nil, nil, api.ErrArg
	}
	if len(row) > 65536 {
		return nil, nil, api.ErrLong
	}
	var packed, piece []byte
	var blocks []api.Block
	for i, x := range row {
		piece = append(piece, x)
		if len(piece) < size && i+1 < len(row) {
			continue
		}
		b := api.Block{At: len(packed), Raw: len(piece)}
		if p, errno := press.Pack(piece); errno == api.OK && len(p) < len(piece) {
			piece = p
		}
		b.Packed, b.Sum = len(piece), sumByWords(piece)
		packed, blocks = append(packed, piece...), append(blocks, b)
		piece = nil
	}
	return packed, blocks, api.OK
}

// openByWords is P11.2.
func openByWords(packed []byte, b api.Block) ([]byte, api.Errno) {
	switch {
	case b.Raw < 1, b.Raw > 4096, b.Packed < 1, b.Packed > b.Raw, len(packed) != b.Packed, sumByWords(packed) != b.Sum:
		return nil, api.ErrBlock
	case b.Packed == b.Raw:
		return packed, api.OK
	}
	raw, errno := press.Unpack(packed, b.Raw)
	if errno != api.OK {
		return nil, api.ErrBlock
	}
	return raw, api.OK
}

// validByWords is P11.3 with numbers that have no end; what is left of the row grows less block by block.
func validByWords(blocks []api.Block, row, size int) bool {
	if row < 0 || row > 65536 || size < 16 || size > 4096 {
		return false
	}
	most := big.NewInt(2147483647)
	var behind *big.Int
	left := row
	for _, b := range blocks {
		if left == 0 || b.Raw != min(left, size) {
			return false
		}
		left -= b.Raw
		if b.Packed < 1 || b.Packed > b.Raw || b.Sum < 0 || b.Sum > 4294967295 {
			return false
		}
		at := big.NewInt(int64(b.At))
		if at.Sign() < 0 || at.Cmp(most) > 0 || behind != nil && at.Cmp(behind) != 0 {
			return false
		}
		behind = new(big.Int).Add(at, big.NewInt(int64(b.Packed)))
	}
	return left == 0
}

// coverByWords is P11.4 with numbers that have no end: the blocks that have the first and the last of the bytes.
func coverByWords(size, at, n int) (int, int) {
	if size < 16 || size > 4096 || at < 0 || at > 2147483647 || n < 1 || n > 2147483647 {
		return 0, 0
	}
	last := new(big.Int).Add(big.NewInt(int64(at)), big.NewInt(int64(n)))
	last.Sub(last, big.NewInt(1)).Div(last, big.NewInt(int64(size)))
	first := new(big.Int).Div(big.NewInt(int64(at)), big.NewInt(int64(size)))
	return int(first.Int64()), int(last.Int64()) + 1
}
