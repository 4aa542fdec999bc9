package bundle_test

import (
	"bytes"
	"errors"
	"fmt"
	"math"
	"slices"
	"testing"

	"freight/api"
	"freight/bundle"
)

// four are the reads of a whole look at these bytes: TRAILER, HEAD, ENTRIES, INDEX.
func four(data []byte) [][2]int {
	n := numbersOf(data)
	return [][2]int{{len(data) - 31, 31}, {0, 6}, {n[0], n[1]}, {n[3], n[4]}}
}

func TestP12_3_FourReads(t *testing.T) {
	for _, width := range widths() {
		for _, size := range []int{16, 100, 4096} {
			results, blobs := stock(width)
			for _, data := range [][]byte{mustMake(t, width, nil, nil, size), mustMake(t, width, results, blobs, size), mustMake(t, width, results, nil, size)} {
				var asked [][2]int
				_, err := bundle.Look(len(data), readOf(data, &asked), width)
				if err != nil || !slices.Equal(asked, four(data)) {
					t.Errorf("width %d, size %d: %v, %v, want %v", width, size, asked, err, four(data))
				}
			}
		}
	}
}

// Each thing that can be wrong, alone: what is told of it, and that no read comes behind it.
func TestP12_3_EachWrong(t *testing.T) {
	for _, w := range wrongs() {
		d := stocked(31, 16)
		w.change(d)
		wantLook(t, fmt.Sprintf("part %d, %s", w.read, w.what), d.bytes(), 31, w.want, w.read)
	}
}

func TestP12_3_NothingWrong(t *testing.T) {
	for _, width := range widths() {
		for _, size := range []int{16, 17, 64, 4096} {
			wantLook(t, "nothing wrong", stocked(width, size).bytes(), width, api.OK, 4)
		}
	}
}

// Of two things that are wrong the first one in the chapter's order is told.
func TestP12_3_EachTwoWrong(t *testing.T) {
	all := wrongs()
	for i, first := range all {
		for _, second := range all[i+1:] {
			d := stocked(31, 16)
			second.change(d) // the first one last: what it changes must not be changed again
			first.change(d)
			what := fmt.Sprintf("parts %d and %d, %s and %s", first.read, second.read, first.what, second.what)
			wantLook(t, what, d.bytes(), 31, first.want, first.read)
		}
	}
}

// A width that is none, and what no bundle has so many bytes of, are told ahead of any read.
func TestP12_3_AheadOfReading(t *testing.T) {
	data := stocked(31, 16).bytes()
	never := func(at, n int) ([]byte, error) {
		t.Errorf("asked for %d, %d", at, n)
		return nil, nil
	}
	long := []int{api.MaxFile + 1, api.MaxFile + 2, 1 << 32, 1<<32 + len(data), math.MaxInt}
	short := []int{42, 41, 31, 6, 1, 0, -1, -43, math.MinInt}
	for _, total := range slices.Concat(long, short, []int{43, len(data), api.MaxFile}) {
		for _, width := range noWidths() {
			face, err := bundle.Look(total, never, width)
			wantFace(t, fmt.Sprint("width ", width, " of ", total), face, err, "bundle.look", api.Face{}, api.ErrArg, api.ID{})
		}
	}
	for _, width := range []int{1, 31, 32} {
		for _, total := range long {
			face, err := bundle.Look(total, never, width)
			wantFace(t, fmt.Sprint("total ", total), face, err, "bundle.look", api.Face{}, api.ErrBundleLong, api.ID{})
		}
		for _, total := range short {
			face, err := bundle.Look(total, never, width)
			wantFace(t, fmt.Sprint("total ", total), face, err, "bundle.look", api.Face{}, api.ErrBundle, api.ID{})
		}
	}
}

// The totals 43 and MaxFile are looked at.
func TestP12_3_TheLeastAndTheGreatestTotal(t *testing.T) {
	least := mustMake(t, 31, nil, nil, 16)
	if len(least) != 43 {
		t.Fatalf("%d bytes", len(least))
	}
	wantLook(t, "43", least, 31, api.OK, 4)
	wantLook(t, "43 noughts", make([]byte, 43), 31, api.ErrBundle, 1)
	wantLook(t, "MaxFile noughts", make([]byte, api.MaxFile), 31, api.ErrBundle, 1)
	d := stocked(31, 16)
	d.indexMore = api.MaxFile - len(d.bytes())
	wantLook(t, "MaxFile, INDEX too long", d.bytes(), 31, api.ErrBundle, 4)
	d.entriesMore, d.indexMore = d.indexMore, 0
	wantLook(t, "MaxFile, ENTRIES too long", d.bytes(), 31, api.ErrBundle, 3)
	d.blocks, d.entriesMore = longer(d.blocks, d.entriesMore), 0
	wantLook(t, "MaxFile, BLOCKS too long", d.bytes(), 31, api.ErrBundle, 4)
	d.blocks = longer(d.blocks, 1)
	wantLook(t, "one more", d.bytes(), 31, api.ErrBundleLong, 0)
}

// Look is told how many bytes there are: with another number the trailer is another one, or none.
func TestP12_3_AnotherTotal(t *testing.T) {
	data := stocked(31, 16).bytes()
	more := slices.Concat(data, make([]byte, 40))
	for total := 43; total < len(more); total++ {
		if total == len(data) {
			continue
		}
		var asked [][2]int
		_, err := bundle.Look(total, readOf(more, &asked), 31)
		wantFault(t, fmt.Sprint("total ", total), err, "bundle.look", api.ErrBundle, api.ID{})
		if !slices.Equal(asked, [][2]int{{total - 31, 31}}) {
			t.Errorf("total %d: asked for %v", total, asked)
		}
	}
}

// Numbers of the trailer that are great: no sum of them goes round.
func TestP12_3_GreatNumbers(t *testing.T) {
	const top = 1<<32 - 1
	great := []int{top, top - 1, 1 << 31, 1<<31 - 1, 1<<31 + 6, 1<<32 - 6, 1<<32 - 31, 1 << 24, 1 << 16}
	good := numbersOf(stocked(31, 16).bytes())
	for k := range 7 {
		for _, v := range great {
			if k == 2 || k == 5 {
				continue // sums
			}
			d := stocked(31, 16)
			turn(func(n *[7]int) { n[k] = v })(d)
			wantLook(t, fmt.Sprintf("number %d is %d", k, v), d.bytes(), 31, api.ErrBundle, 1)
		}
	}
	for _, v := range great {
		for what, change := range map[string]func(n *[7]int){
			"ENTRIES goes round":               func(n *[7]int) { n[0], n[1] = v, good[3]+1<<32-v },
			"ENTRIES goes round by its length": func(n *[7]int) { n[1] = v; n[0] = (good[3] + 1<<32 - v) & top },
			"INDEX goes round":                 func(n *[7]int) { n[3], n[4] = v, (good[3]+good[4]+1<<32-v)&top; n[1] = (v - n[0]) & top },
			"both go round":                    func(n *[7]int) { n[1], n[3] = v, (n[0]+v)&top; n[4] = (good[3] + good[4] + 1<<33 - n[3]) & top },
			"all but the last":                 func(n *[7]int) { n[0], n[1], n[3], n[4] = v, v, v, v },
		} {
			d := stocked(31, 16)
			turn(change)(d)
			n := good
			change(&n)
			if n[0]+n[1] == n[3] && n[3]+n[4] == good[3]+good[4] && n[0] >= 6 {
				continue // nothing of it goes round
			}
			wantLook(t, fmt.Sprintf("%s: %d", what, v), d.bytes(), 31, api.ErrBundle, 1)
		}
	}
}

// The edges of each check that are just not wrong.
func TestP12_3_JustNotWrong(t *testing.T) {
	for what, c := range map[string]struct {
		change func(d *draft)
		want   api.Errno
		reads  int
	}{
		"32 results":                  {func(d *draft) { d.results = actions(32, api.ID{}) }, api.OK, 4},
		"no results":                  {func(d *draft) { d.results = nil }, api.OK, 4},
		"ENTRIES of 4 bytes":          {func(d *draft) { *d = *draftOf(31, nil, nil, 16) }, api.OK, 4},
		"64 blobs, INDEX as it was":   {func(d *draft) { d.places = risingPlaces(64, 10) }, api.ErrBundle, 4},
		"a blob of 4096 bytes":        {func(d *draft) { d.places[0].N = 4096 }, api.ErrBundle, 4},
		"a row of 65536 bytes":        {func(d *draft) { d.places = risingPlaces(16, 4096) }, api.ErrBundle, 4},
		"ids that differ at last":     {func(d *draft) { d.places[1].ID = d.places[0].ID; d.places[1].ID[30]++ }, api.OK, 4},
		"the size 4096":               {func(d *draft) { d.head = headOf(31, 4096) }, api.ErrBundle, 4},
		"the size 16":                 {func(d *draft) { *d = *stocked(31, 20); d.head = headOf(31, 16) }, api.ErrBundle, 4},
		"another sum of a block":      {func(d *draft) { d.index[0].Sum ^= 1 }, api.OK, 4},
		"other bytes in BLOCKS":       {func(d *draft) { d.blocks = times(len(d.blocks), 9) }, api.OK, 4},
		"other actions, roots, Codes": {func(d *draft) { d.results = []api.Result{{}, {Action: api.ID{31: 1}, Root: api.ID{31: 1}, Code: 255}} }, api.OK, 4},
	} {
		d := stocked(31, 16)
		c.change(d)
		wantLook(t, what, d.bytes(), 31, c.want, c.reads)
	}
}

// 64 blobs, a row of 65536 bytes and 4096 blocks are taken.
func TestP12_3_TheGreatest(t *testing.T) {
	for _, size := range []int{16, 4096} {
		wantLook(t, "64 blobs of 1024", draftOf(32, actions(32, api.ID{}), unlike(64, 1024), size).bytes(), 32, api.OK, 4)
		wantLook(t, "16 blobs of 4096", draftOf(32, actions(32, api.ID{}), unlike(16, 4096), size).bytes(), 32, api.OK, 4)
	}
}

// Of a block all numbers of packed bytes from 1 to Raw are taken, whether Pack would write them or not.
func TestP12_3_PackedBytes(t *testing.T) {
	for packed := range 20 {
		d := draftOf(31, nil, [][]byte{times(16, 'q'), times(30, 'z')}, 16)
		k := 1
		d.blocks = longer(d.blocks, packed-d.index[k].Packed)
		d.index[k].Packed = packed
		want := api.OK
		if packed < 1 || packed > 16 {
			want = api.ErrBundle
		}
		wantLook(t, fmt.Sprint(packed, " packed bytes"), d.bytes(), 31, want, 4)
	}
}

// Each byte of HEAD, ENTRIES, INDEX and TRAILER turned, by several values.
func TestP12_3_EachByteTurned(t *testing.T) {
	data := stocked(8, 16).bytes()
	blocks := numbersOf(data)[0]
	for k := range data {
		for _, with := range []byte{1, 0x80, 0xff, 0x20} {
			turned := bytes.Clone(data)
			turned[k] ^= with
			wantByWords(t, fmt.Sprintf("byte %d by %x", k, with), turned, 8)
			_, err := bundle.Parse(turned, 8)
			if inBlocks := k >= 6 && k < blocks; inBlocks != (err == nil) {
				t.Errorf("byte %d by %x: %v", k, with, err)
			}
		}
	}
}

// Cut anywhere, and with bytes behind it or ahead of it.
func TestP12_3_CutAndLonger(t *testing.T) {
	data := stocked(8, 16).bytes()
	for k := range data {
		wantByWords(t, fmt.Sprint("the first ", k), data[:k], 8)
		wantByWords(t, fmt.Sprint("the last ", k), data[k+1:], 8)
		wantByWords(t, fmt.Sprint("a byte put in at ", k), slices.Concat(data[:k], []byte{7}, data[k:]), 8)
		wantByWords(t, fmt.Sprint("the byte gone at ", k), slices.Concat(data[:k], data[k+1:]), 8)
	}
}

// Drafts with several wrongs, and numbers that are drawn.
func TestP12_3_Drawn(t *testing.T) {
	r := noise()
	all := wrongs()
	for range 3000 {
		d := stocked(31, []int{16, 20, 64}[r.IntN(3)])
		chosen := []int{r.IntN(len(all)), r.IntN(len(all)), r.IntN(len(all))}[:r.IntN(4)]
		slices.SortFunc(chosen, func(a, b int) int { return b - a })
		for _, k := range slices.Compact(chosen) {
			all[k].change(d)
		}
		for range r.IntN(3) {
			k := r.IntN(len(d.places))
			d.places[k%len(d.places)].N += r.IntN(5) - 2
			d.places[k].N = max(0, d.places[k].N)
			b := r.IntN(len(d.index))
			d.index[b].Packed = max(0, d.index[b].Packed+r.IntN(3)-1)
		}
		wantByWords(t, "drawn", d.bytes(), 31)
	}
}

// answer is what read may say instead of the bytes.
type answer struct {
	what string
	say  func(data []byte) ([]byte, error)
	want api.Errno
}

// wrapping is an error that has another one in it.
type wrapping struct{ inner error }

func (w wrapping) Error() string { return "wrapped" }
func (w wrapping) Unwrap() error { return w.inner }

// showing has a number that errors.As finds, and errors.Is does not.
type showing struct{ number api.Errno }

func (s showing) Error() string { return "showing" }
func (s showing) As(target any) bool {
	p, is := target.(*api.Errno)
	if is {
		*p = s.number
	}
	return is
}

// with answers the bytes and an error.
func with(err error) func(data []byte) ([]byte, error) {
	return func(data []byte) ([]byte, error) { return data, err }
}

func answers() []answer {
	cut := func(n int) func(data []byte) ([]byte, error) {
		return func(data []byte) ([]byte, error) { return longer(bytes.Clone(data), n), nil }
	}
	id := api.ID{1, 2, 3}
	return []answer{
		{"no bytes", func([]byte) ([]byte, error) { return nil, nil }, api.ErrBundle},
		{"empty bytes", func([]byte) ([]byte, error) { return []byte{}, nil }, api.ErrBundle},
		{"one byte fewer", cut(-1), api.ErrBundle},
		{"one byte more", cut(1), api.ErrBundle},
		{"many more", cut(1000), api.ErrBundle},
		{"an Errno", with(api.ErrOff), api.ErrOff},
		{"an Errno, no bytes", func([]byte) ([]byte, error) { return nil, api.ErrBeyond }, api.ErrBeyond},
		{"an Errno of no name", with(api.Errno(1000000)), api.Errno(1000000)},
		{"the Errno 1", with(api.ErrArg), api.ErrArg},
		{"a Fault with an ID", with(&api.Fault{Op: "disk.read", Name: "f", ID: id, Err: api.ErrNone}), api.ErrNone},
		{"a Fault in a Fault, with IDs", with(&api.Fault{Op: "a", ID: id, Err: &api.Fault{Op: "b", ID: id, Err: api.ErrFull}}), api.ErrFull},
		{"a wrapped Fault", with(wrapping{&api.Fault{Op: "a", ID: id, Err: api.ErrDamage}}), api.ErrDamage},
		{"errors of which one has a number", with(errors.Join(errors.New("bare"), api.ErrSum)), api.ErrSum},
		{"a number that Is does not find", with(showing{api.ErrName}), api.ErrName},
		{"the Errno OK", with(api.OK), api.ErrBundle},
		{"an Errno below 0", with(api.Errno(-5)), api.ErrBundle},
		{"a bare error", with(errors.New("bare")), api.ErrBundle},
		{"a Fault of nothing", with(&api.Fault{Op: "a", ID: id}), api.ErrBundle},
		{"a nil Fault", with((*api.Fault)(nil)), api.ErrBundle},
		{"a Fault of the Errno OK", with(&api.Fault{Op: "a", ID: id, Err: api.OK}), api.ErrBundle},
		{"a Fault of a bare error", with(&api.Fault{Op: "a", ID: id, Err: errors.New("bare")}), api.ErrBundle},
		{"a number below 0 that Is does not find", with(showing{-1}), api.ErrBundle},
	}
}

// saying is the read of these bytes that says something else at one of its calls.
func saying(data []byte, call int, a answer, asked *[][2]int) func(at, n int) ([]byte, error) {
	read := readOf(data, asked)
	return func(at, n int) ([]byte, error) {
		piece, err := read(at, n)
		if err == nil && len(*asked) == call {
			return a.say(piece)
		}
		return piece, err
	}
}

// What read says at each of its calls is told, and it is not asked again.
func TestP12_3_WhatReadAnswers(t *testing.T) {
	data := stocked(31, 16).bytes()
	for call := 1; call <= 4; call++ {
		for _, a := range answers() {
			var asked [][2]int
			face, err := bundle.Look(len(data), saying(data, call, a, &asked), 31)
			what := fmt.Sprintf("call %d: %s", call, a.what)
			wantFace(t, what, face, err, "bundle.look", api.Face{}, a.want, api.ID{})
			if !slices.Equal(asked, four(data)[:call]) {
				t.Errorf("%s: asked for %v", what, asked)
			}
		}
	}
}

// Where a part is wrong and read says something too: the first part; of one part what read says.
func TestP12_3_WhatReadAnswersBesideWrongs(t *testing.T) {
	for _, w := range wrongs() {
		d := stocked(31, 16)
		w.change(d)
		data := d.bytes()
		for call := 1; call <= 4; call++ {
			for _, a := range answers() {
				want, reads := w.want, w.read
				if call <= w.read {
					want, reads = a.want, call
				}
				var asked [][2]int
				face, err := bundle.Look(len(data), saying(data, call, a, &asked), 31)
				what := fmt.Sprintf("call %d: %s; part %d: %s", call, a.what, w.read, w.what)
				wantFace(t, what, face, err, "bundle.look", api.Face{}, want, api.ID{})
				if len(asked) != reads {
					t.Errorf("%s: %d reads", what, len(asked))
				}
			}
		}
	}
}

// A read that is nil is told where it would be asked.
func TestP12_3_NilRead(t *testing.T) {
	for _, c := range []struct {
		total, width int
		want         api.Errno
	}{
		{43, 32, api.ErrBundle}, {100, 1, api.ErrBundle}, {api.MaxFile, 32, api.ErrBundle},
		{42, 32, api.ErrBundle}, {-1, 32, api.ErrBundle},
		{api.MaxFile + 1, 32, api.ErrBundleLong},
		{43, 0, api.ErrArg}, {43, 33, api.ErrArg}, {0, -1, api.ErrArg}, {api.MaxFile + 1, 0, api.ErrArg},
	} {
		face, err := bundle.Look(c.total, nil, c.width)
		wantFace(t, fmt.Sprint("nil read of ", c.total, ", ", c.width), face, err, "bundle.look", api.Face{}, c.want, api.ID{})
	}
}

// Each field of the Face, held against what was put into the bundle.
func TestP12_4_Face(t *testing.T) {
	for _, width := range widths() {
		for _, size := range []int{16, 17, 100, 4096} {
			d := stocked(width, size)
			p := d.parts()
			data := d.bytes()
			got, err := bundle.Look(len(data), readOf(data, new([][2]int)), width)
			want := api.Face{Width: width, Size: size, Results: d.results, Blobs: d.places, Blocks: d.index, Entries: sumOf(p.entries), Index: sumOf(p.index)}
			if err != nil || !likeFace(got, want) {
				t.Errorf("width %d, size %d: %s, %v, want %s", width, size, shown(got), err, shown(want))
			}
		}
	}
}

// By hand: two blobs, three blocks.
func TestP12_4_FaceByHand(t *testing.T) {
	d := &draft{head: headOf(2, 16), width: 2, letters: "trf", blocks: times(21, 'b')}
	d.results = []api.Result{{Action: api.ID{9}, Root: api.ID{8}, Code: 7}}
	d.places = []api.Place{{ID: api.ID{0, 5}, N: 0}, {ID: api.ID{0, 6}, N: 20}, {ID: api.ID{1, 0}, N: 15}}
	d.index = []api.Block{{Packed: 16, Raw: 16, Sum: 1}, {Packed: 3, Raw: 16, Sum: 1<<32 - 1}, {Packed: 2, Raw: 3, Sum: 0}}
	data := d.bytes()
	face, err := bundle.Parse(data, 2)
	want := api.Face{
		Width: 2, Size: 16,
		Results: []api.Result{{Action: api.ID{9}, Root: api.ID{8}, Code: 7}},
		Blobs:   []api.Place{{ID: api.ID{0, 5}, At: 0, N: 0}, {ID: api.ID{0, 6}, At: 0, N: 20}, {ID: api.ID{1, 0}, At: 20, N: 15}},
		Blocks:  []api.Block{{At: 6, Packed: 16, Raw: 16, Sum: 1}, {At: 22, Packed: 3, Raw: 16, Sum: 1<<32 - 1}, {At: 25, Packed: 2, Raw: 3, Sum: 0}},
		Entries: sumOf(data[27 : 27+2+65+2+3*4]), Index: sumOf(data[27+2+65+2+3*4 : len(data)-31]),
	}
	if err != nil || !likeFace(face, want) {
		t.Errorf("%+v, %v\nwant %+v", face, err, want)
	}
}
