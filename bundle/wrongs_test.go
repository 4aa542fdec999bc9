package bundle_test

import (
	"slices"

	"freight/api"
)

// wrong is one thing that a bundle can have wrong, all else being as it must
// be: at which of the reads it is found, and what is told of it.
type wrong struct {
	what   string
	read   int // 1: TRAILER, 2: HEAD, 3: ENTRIES, 4: INDEX
	want   api.Errno
	change func(d *draft)
}

// turn changes the trailer's numbers, behind all other changes.
func turn(change func(n *[7]int)) func(d *draft) {
	return func(d *draft) { d.turns = append(d.turns, change) }
}

// wrongs are all of P12.3's 2. to 5., in the order in which they are told. No
// two of them undo each other.
func wrongs() []wrong {
	return slices.Concat(wrongTrailers(), wrongHeads(), wrongResults(), wrongBlobs(), wrongIndexes())
}

func wrongTrailers() []wrong {
	return []wrong{
		{"its first letter", 1, api.ErrBundle, func(d *draft) { d.letters = "Trf" }},
		{"its last letter", 1, api.ErrBundle, func(d *draft) { d.letters = "trg" }},
		{"the letters of HEAD", 1, api.ErrBundle, func(d *draft) { d.letters = "frt" }},
		{"the whole, one more", 1, api.ErrBundle, turn(func(n *[7]int) { n[6]++ })},
		{"the whole, two fewer", 1, api.ErrBundle, turn(func(n *[7]int) { n[6] -= 2 })},
		{"ENTRIES begins at 5", 1, api.ErrBundle, turn(func(n *[7]int) { n[0], n[1] = 5, n[3]-5 })},
		{"ENTRIES begins at 0", 1, api.ErrBundle, turn(func(n *[7]int) { n[0], n[1] = 0, n[3] })},
		{"ENTRIES has 3 bytes", 1, api.ErrBundle, turn(func(n *[7]int) { n[0], n[1] = n[3]-3, 3 })},
		{"ENTRIES has no bytes", 1, api.ErrBundle, turn(func(n *[7]int) { n[0], n[1] = n[3], 0 })},
		{"a gap ahead of INDEX", 1, api.ErrBundle, turn(func(n *[7]int) { n[1] -= 2 })},
		{"INDEX begins within ENTRIES", 1, api.ErrBundle, turn(func(n *[7]int) { n[3], n[4] = n[3]-1, n[4]+1 })},
		{"INDEX has one byte", 1, api.ErrBundle, turn(func(n *[7]int) { n[3] += n[4] - 1; n[1] += n[4] - 1; n[4] = 1 })},
		{"INDEX has no bytes", 1, api.ErrBundle, turn(func(n *[7]int) { n[3] += n[4]; n[1] += n[4]; n[4] = 0 })},
		{"a gap ahead of TRAILER", 1, api.ErrBundle, turn(func(n *[7]int) { n[4] -= 2 })},
		{"TRAILER begins within INDEX", 1, api.ErrBundle, turn(func(n *[7]int) { n[4]++ })},
	}
}

func wrongHeads() []wrong {
	size := func(size int) func(d *draft) {
		return func(d *draft) { d.head = append(d.head[:4:4], byte(size>>8), byte(size)) }
	}
	at := func(k int, b byte) func(d *draft) {
		return func(d *draft) { d.head = slices.Concat(d.head[:k], []byte{b}, d.head[k+1:]) }
	}
	return []wrong{
		{"its first letter", 2, api.ErrBundle, at(0, 'F')},
		{"its last letter", 2, api.ErrBundle, at(2, 'f')},
		{"another width", 2, api.ErrBundle, at(3, 30)},
		{"the width 0", 2, api.ErrBundle, at(3, 0)},
		{"the width 33", 2, api.ErrBundle, at(3, 33)},
		{"the size 0", 2, api.ErrBundle, size(0)},
		{"the size 15", 2, api.ErrBundle, size(15)},
		{"the size 4097", 2, api.ErrBundle, size(4097)},
		{"the size 65535", 2, api.ErrBundle, size(65535)},
	}
}

// wrongResults are those of ENTRIES up to the number of blobs.
func wrongResults() []wrong {
	return []wrong{
		{"its sum", 3, api.ErrSum, turn(func(n *[7]int) { n[2] ^= 1 })},
		{"its sum's highest bit", 3, api.ErrSum, turn(func(n *[7]int) { n[2] ^= 1 << 31 })},
		{"33 results are said", 3, api.ErrMany, func(d *draft) { d.saysResults = 33 - len(d.results) }},
		{"65535 results are said", 3, api.ErrMany, func(d *draft) { d.saysResults = 65535 - len(d.results) }},
		{"33 results", 3, api.ErrMany, func(d *draft) { d.results = actions(33, api.ID{}) }},
		{"it ends ahead of the results", 3, api.ErrBundle, func(d *draft) { d.entriesEnd = 4 }},
		{"it ends within the results", 3, api.ErrBundle, func(d *draft) { d.entriesEnd = 2 + 65*len(d.results) - 1 }},
		{"it ends behind the results", 3, api.ErrBundle, func(d *draft) { d.entriesEnd = 2 + 65*len(d.results) }},
		{"it ends within the number of blobs", 3, api.ErrBundle, func(d *draft) { d.entriesEnd = 2 + 65*len(d.results) + 1 }},
		{"results that fall", 3, api.ErrBundle, func(d *draft) { slices.Reverse(d.results) }},
		{"an action twice", 3, api.ErrBundle, func(d *draft) { d.results[1].Action = d.results[0].Action }},
	}
}

// wrongBlobs are those of ENTRIES from the number of blobs on.
func wrongBlobs() []wrong {
	return []wrong{
		{"65 blobs are said", 3, api.ErrMany, func(d *draft) { d.saysBlobs = 65 - len(d.places) }},
		{"65535 blobs are said", 3, api.ErrMany, func(d *draft) { d.saysBlobs = 65535 - len(d.places) }},
		{"65 blobs", 3, api.ErrMany, func(d *draft) { d.places, d.saysBlobs = risingPlaces(65, 10), 0 }},
		{"it ends within the blobs", 3, api.ErrBundle, func(d *draft) { d.entriesMore = -1 }},
		{"it ends one blob too early", 3, api.ErrBundle, func(d *draft) { d.saysBlobs = 1 }},
		{"it ends one blob too late", 3, api.ErrBundle, func(d *draft) { d.saysBlobs = -1 }},
		{"one byte behind the blobs", 3, api.ErrBundle, func(d *draft) { d.entriesMore = 1 }},
		{"ids that fall", 3, api.ErrBundle, func(d *draft) { d.places[0].ID, d.places[1].ID = d.places[1].ID, d.places[0].ID }},
		{"an id twice", 3, api.ErrBundle, func(d *draft) { d.places[1].ID = d.places[0].ID }},
		{"the last two ids fall", 3, api.ErrBundle, func(d *draft) {
			k := len(d.places) - 1
			d.places[k].ID, d.places[k-1].ID = d.places[k-1].ID, d.places[k].ID
		}},
		{"a blob of 4097 bytes", 3, api.ErrBundle, func(d *draft) { d.places[0].N = 4097 }},
		{"a blob of 65535 bytes", 3, api.ErrBundle, func(d *draft) { d.places[len(d.places)-1].N = 65535 }},
		{"a row of one byte more", 3, api.ErrBundleLong, func(d *draft) {
			d.places = risingPlaces(17, 4096)
			d.places[9].N = 1
		}},
		{"a row of 63 blobs of 4096 bytes", 3, api.ErrBundleLong, func(d *draft) { d.places = risingPlaces(63, 4096) }},
	}
}

func wrongIndexes() []wrong {
	return []wrong{
		{"its sum", 4, api.ErrSum, turn(func(n *[7]int) { n[5] ^= 1 << 16 })},
		{"one block more is said", 4, api.ErrBundle, func(d *draft) { d.saysBlocks = 1 }},
		{"one block fewer is said", 4, api.ErrBundle, func(d *draft) { d.saysBlocks = -1 }},
		{"one block more", 4, api.ErrBundle, func(d *draft) {
			d.index = append(d.index[:len(d.index):len(d.index)], api.Block{Packed: 1, Raw: 1})
			d.blocks = longer(d.blocks, 1)
		}},
		{"one block fewer", 4, api.ErrBundle, func(d *draft) {
			last := len(d.index) - 1
			d.blocks = longer(d.blocks, -d.index[last].Packed)
			d.index = d.index[:last]
		}},
		{"one byte behind the blocks", 4, api.ErrBundle, func(d *draft) { d.indexMore = 1 }},
		{"eight bytes behind the blocks", 4, api.ErrBundle, func(d *draft) { d.indexMore = 8 }},
		{"it ends within the blocks", 4, api.ErrBundle, func(d *draft) { d.indexMore = -1 }},
		{"a block that unpacks to one byte more", 4, api.ErrBundle, func(d *draft) { d.index[0].Raw++ }},
		{"a block that unpacks to one byte fewer", 4, api.ErrBundle, func(d *draft) { d.index[1].Raw-- }},
		{"the last block unpacks to one byte more", 4, api.ErrBundle, func(d *draft) { d.index[len(d.index)-1].Raw++ }},
		{"a block of no packed bytes", 4, api.ErrBundle, func(d *draft) {
			d.blocks = longer(d.blocks, -d.index[2].Packed)
			d.index[2].Packed = 0
		}},
		{"a block of more packed bytes than it unpacks to", 4, api.ErrBundle, func(d *draft) {
			d.blocks = longer(d.blocks, d.index[1].Raw+1-d.index[1].Packed)
			d.index[1].Packed = d.index[1].Raw + 1
		}},
		{"one byte ahead of ENTRIES", 4, api.ErrBundle, func(d *draft) { d.blocks = longer(d.blocks, 1) }},
		{"two bytes of BLOCKS are gone", 4, api.ErrBundle, func(d *draft) { d.blocks = longer(d.blocks, -2) }},
	}
}

// risingPlaces are n blobs of so many bytes.
func risingPlaces(n, size int) []api.Place {
	places := make([]api.Place, n)
	for i := range places {
		places[i] = api.Place{ID: api.ID{byte(i + 1)}, N: size}
	}
	return places
}
