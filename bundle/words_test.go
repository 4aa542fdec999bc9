package bundle_test

import (
	"bytes"
	"crypto/sha256"
	"encoding/binary"
	"hash/crc32"
	"slices"

	"freight/api"
	"freight/press"
	"freight/reach"
)

// What chapter 12 says, read for a second time.

// idOf is an id by another hand.
func idOf(width int, data []byte) api.ID {
	full := sha256.Sum256(data)
	clear(full[width:])
	return full
}

func sumOf(data []byte) int { return int(crc32.ChecksumIEEE(data)) }

func put2(data []byte, v int) []byte { return binary.BigEndian.AppendUint16(data, uint16(v)) }
func put4(data []byte, v int) []byte { return binary.BigEndian.AppendUint32(data, uint32(v)) }

func isTable(results []api.Result) bool {
	for i, r := range results {
		if r.Code < 0 || r.Code > 255 || i > 0 && bytes.Compare(results[i-1].Action[:], r.Action[:]) >= 0 {
			return false
		}
	}
	return len(results) <= 32
}

// parts are those of a bundle that is to be, and the numbers of its trailer.
type parts struct {
	head, blocks, entries, index []byte
}

func (p parts) numbers() [7]int {
	at := len(p.head) + len(p.blocks)
	behind := at + len(p.entries)
	return [7]int{at, len(p.entries), sumOf(p.entries), behind, len(p.index), sumOf(p.index), behind + len(p.index) + 31}
}

func (p parts) sealed(numbers [7]int, letters string) []byte {
	data := slices.Concat(p.head, p.blocks, p.entries, p.index)
	for _, n := range numbers {
		data = put4(data, n)
	}
	return append(data, letters...)
}

func headOf(width, size int) []byte { return put2([]byte{'f', 'r', 't', byte(width)}, size) }

// entriesOf says how many there are as it is told to.
func entriesOf(width int, results []api.Result, saysResults int, blobs []api.Place, saysBlobs int) []byte {
	data := put2(nil, saysResults)
	for _, r := range results {
		data = slices.Concat(data, r.Action[:], r.Root[:], []byte{byte(r.Code)})
	}
	data = put2(data, saysBlobs)
	for _, b := range blobs {
		data = put2(append(data, b.ID[:width]...), b.N)
	}
	return data
}

func indexOf(blocks []api.Block, says int) []byte {
	data := put2(nil, says)
	for _, b := range blocks {
		data = put4(put2(put2(data, b.Packed), b.Raw), b.Sum)
	}
	return data
}

// packedOf is the blocks of a row, and their packed bytes, as they lie in a bundle.
func packedOf(row []byte, size int) ([]byte, []api.Block) {
	var packed []byte
	var blocks []api.Block
	for piece := range slices.Chunk(row, size) {
		kept := piece
		if p, errno := press.Pack(piece); errno == api.OK && len(p) < len(piece) {
			kept = p
		}
		blocks = append(blocks, api.Block{At: 6 + len(packed), Packed: len(kept), Raw: len(piece), Sum: sumOf(kept)})
		packed = append(packed, kept...)
	}
	return packed, blocks
}

// rowOf is each of some blobs once, by rising ids.
func rowOf(width int, blobs [][]byte) ([]api.Place, []byte) {
	sorted := slices.Clone(blobs)
	slices.SortFunc(sorted, func(a, b []byte) int {
		one, other := idOf(width, a), idOf(width, b)
		return bytes.Compare(one[:], other[:])
	})
	sorted = slices.CompactFunc(sorted, bytes.Equal)
	var places []api.Place
	var row []byte
	for _, b := range sorted {
		places = append(places, api.Place{ID: idOf(width, b), At: len(row), N: len(b)})
		row = append(row, b...)
	}
	return places, row
}

// makeByWords is P12.1; with an error comes the id that it is said of.
func makeByWords(width int, results []api.Result, blobs [][]byte, size int) ([]byte, api.Errno, api.ID) {
	if width < 1 || width > 32 || size < 16 || size > 4096 || !isTable(results) {
		return nil, api.ErrArg, api.ID{}
	}
	for _, b := range blobs {
		if len(b) > 4096 {
			return nil, api.ErrLong, api.ID{}
		}
	}
	unlike := map[api.ID]map[string]bool{}
	var clashes []api.ID
	for _, b := range blobs {
		id := idOf(width, b)
		if unlike[id] == nil {
			unlike[id] = map[string]bool{}
		}
		unlike[id][string(b)] = true
		if len(unlike[id]) > 1 {
			clashes = append(clashes, id)
		}
	}
	if len(clashes) > 0 {
		return nil, api.ErrCollision, slices.MinFunc(clashes, func(a, b api.ID) int { return bytes.Compare(a[:], b[:]) })
	}
	places, row := rowOf(width, blobs)
	if len(places) > 64 {
		return nil, api.ErrMany, api.ID{}
	}
	if len(row) > 65536 {
		return nil, api.ErrBundleLong, api.ID{}
	}
	packed, blocks := packedOf(row, size)
	p := parts{headOf(width, size), packed, entriesOf(width, results, len(results), places, len(places)), indexOf(blocks, len(blocks))}
	return p.sealed(p.numbers(), "trf"), api.OK, api.ID{}
}

// cursor goes through bytes; it is short from where they ended on.
type cursor struct {
	left  []byte
	short bool
}

func (c *cursor) take(n int) []byte {
	if c.short || n > len(c.left) {
		c.short = true
		return make([]byte, n)
	}
	piece := c.left[:n]
	c.left = c.left[n:]
	return piece
}

func (c *cursor) two() int  { return int(binary.BigEndian.Uint16(c.take(2))) }
func (c *cursor) four() int { return int(binary.BigEndian.Uint32(c.take(4))) }

// lookByWords is P12.3 and P12.4 of bytes that are all there; with it comes what was asked for: place and length.
func lookByWords(data []byte, width int) (api.Face, api.Errno, [][2]int) {
	none := api.Face{}
	switch {
	case width < 1 || width > 32:
		return none, api.ErrArg, nil
	case len(data) > 131072:
		return none, api.ErrBundleLong, nil
	case len(data) < 43:
		return none, api.ErrBundle, nil
	}
	end := len(data) - 31
	asked := [][2]int{{end, 31}}
	c := cursor{left: data[end:]}
	var n [7]int
	for i := range n {
		n[i] = c.four()
	}
	if string(c.left) != "trf" || n[6] != len(data) || n[0] < 6 || n[1] < 4 || n[3] != n[0]+n[1] || n[4] < 2 || end != n[3]+n[4] {
		return none, api.ErrBundle, asked
	}
	asked = append(asked, [2]int{0, 6})
	face := api.Face{Width: int(data[3]), Size: int(data[4])<<8 + int(data[5]), Entries: n[2], Index: n[5]}
	if string(data[:3]) != "frt" || face.Width != width || face.Size < 16 || face.Size > 4096 {
		return none, api.ErrBundle, asked
	}
	asked = append(asked, [2]int{n[0], n[1]})
	row, errno := entriesByWords(&face, data[n[0]:n[3]])
	if errno != api.OK {
		return none, errno, asked
	}
	asked = append(asked, [2]int{n[3], n[4]})
	if errno := indexByWords(&face, data[n[3]:end], row, n[0]); errno != api.OK {
		return none, errno, asked
	}
	return face, api.OK, asked
}

func entriesByWords(face *api.Face, data []byte) (int, api.Errno) {
	if sumOf(data) != face.Entries {
		return 0, api.ErrSum
	}
	c := cursor{left: data}
	results := c.two()
	if c.short {
		return 0, api.ErrBundle
	}
	if results > 32 {
		return 0, api.ErrMany
	}
	for range results {
		face.Results = append(face.Results, api.Result{Action: api.ID(c.take(32)), Root: api.ID(c.take(32)), Code: int(c.take(1)[0])})
	}
	blobs := c.two()
	if c.short || !isTable(face.Results) {
		return 0, api.ErrBundle
	}
	if blobs > 64 {
		return 0, api.ErrMany
	}
	row := 0
	wrong := false
	for i := range blobs {
		p := api.Place{At: row}
		copy(p.ID[:], c.take(face.Width))
		p.N = c.two()
		row += p.N
		wrong = wrong || p.N > 4096 || i > 0 && bytes.Compare(face.Blobs[i-1].ID[:], p.ID[:]) >= 0
		face.Blobs = append(face.Blobs, p)
	}
	if wrong || c.short || len(c.left) != 0 {
		return 0, api.ErrBundle
	}
	if row > 65536 {
		return 0, api.ErrBundleLong
	}
	return row, api.OK
}

func indexByWords(face *api.Face, data []byte, row, end int) api.Errno {
	if sumOf(data) != face.Index {
		return api.ErrSum
	}
	c := cursor{left: data}
	count := c.two()
	at := 6
	for k := 0; k*face.Size < row; k++ {
		b := api.Block{At: at, Packed: c.two(), Raw: c.two(), Sum: c.four()}
		at += b.Packed
		if b.Raw != min(face.Size, row-k*face.Size) || b.Packed == 0 || b.Packed > b.Raw {
			return api.ErrBundle
		}
		face.Blocks = append(face.Blocks, b)
	}
	if count != len(face.Blocks) || c.short || len(c.left) != 0 || at != end {
		return api.ErrBundle
	}
	return api.OK
}

// verifyByWords is P12.6; what a need is, chapter 9 says.
func verifyByWords(data []byte, width int) (api.Face, api.Errno, api.ID) {
	face, errno, _ := lookByWords(data, width)
	if errno != api.OK {
		return api.Face{}, errno, api.ID{}
	}
	var row []byte
	for _, b := range face.Blocks {
		piece := data[b.At : b.At+b.Packed]
		raw := piece
		if b.Packed < b.Raw {
			raw, errno = press.Unpack(piece, b.Raw)
		}
		if errno != api.OK || sumOf(piece) != b.Sum {
			return api.Face{}, api.ErrBlock, api.ID{}
		}
		row = append(row, raw...)
	}
	source := reach.Map{}
	for _, p := range face.Blobs {
		source[p.ID] = row[p.At : p.At+p.N]
		if idOf(width, source[p.ID]) != p.ID {
			return api.Face{}, api.ErrDigest, p.ID
		}
	}
	need, err := reach.Need(source, face.Results...)
	if err != nil {
		return api.Face{}, api.Code(err), err.(*api.Fault).ID
	}
	for _, p := range face.Blobs {
		if !slices.Contains(need, p.ID) {
			return api.Face{}, api.ErrExtra, p.ID
		}
	}
	return face, api.OK, api.ID{}
}
