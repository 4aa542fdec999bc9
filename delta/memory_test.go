package delta_test

import (
	"bytes"
	"math"
	"slices"
	"sync"
	"testing"

	"freight/api"
	"freight/delta"
)

func wantUntouched(t *testing.T, what string, list, before []byte) {
	t.Helper()
	if !bytes.Equal(list[:cap(list)], before) {
		t.Errorf("%s: what was handed in is another", what)
	}
}

// fill writes over a list, and over its room.
func fill(list []byte, b byte) {
	whole := list[:cap(list)]
	for i := range whole {
		whole[i] = b
	}
}

// fillBlocks writes over a list of blocks, and over its room.
func fillBlocks(list []api.Weak) {
	whole := list[:cap(list)]
	for i := range whole {
		whole[i] = api.Weak{Sum: -7, ID: api.ID{7}}
	}
}

// roomySignature is a copy with spare room behind its blocks.
func roomySignature(s api.Signature) api.Signature {
	whole := append(slices.Clone(s.Blocks), slices.Repeat([]api.Weak{{Sum: 9, ID: api.ID{9}}}, 20)...)
	s.Blocks = whole[:len(s.Blocks)]
	return s
}

// rowsOf are bases and targets: none, short ones, blocks alone, blocks and bytes.
func rowsOf() [][]byte {
	return [][]byte{nil, {}, []byte("x"), row("A"), row("AB"), row("BAx"), row("xAyB"), letters(noise(), 700, 256), letters(noise(), 700, 1)}
}

func TestP18_12_SignTouchesAndKeepsNothing(t *testing.T) {
	for _, base := range append(rowsOf(), times(api.MaxFile+1, 1)) {
		for _, size := range []int{15, 16, 100} {
			given := roomy(base, 300, 0xa5)
			before := bytes.Clone(given[:cap(given)])
			s, errno := delta.Sign(4, given, size)
			wantUntouched(t, "Sign", given, before)
			fill(given, 0x77)
			if want, wanted := signByWords(4, base, size); errno != wanted || !likeSignature(s, want) {
				t.Errorf("Sign of %d bytes by %d: written over behind it", len(base), size)
			}
		}
	}
}

func TestP18_12_EncodeTouchesAndKeepsNothing(t *testing.T) {
	for _, base := range rowsOf() {
		s := roomySignature(mustSign(t, 4, base, 16))
		before := slices.Clone(s.Blocks[:cap(s.Blocks)])
		want, _ := encodeByWords(s)
		data := mustEncode(t, s)
		if !slices.Equal(s.Blocks[:cap(s.Blocks)], before) {
			t.Errorf("Encode of %d bytes: what was handed in is another", len(base))
		}
		fillBlocks(s.Blocks)
		if !bytes.Equal(data, want) {
			t.Errorf("Encode of %d bytes: written over behind it", len(base))
		}
	}
	for what, s := range noSignatures(t) {
		given := roomySignature(s)
		before := slices.Clone(given.Blocks[:cap(given.Blocks)])
		delta.Encode(given)
		delta.Make(given, row("ABx"))
		if !slices.Equal(given.Blocks[:cap(given.Blocks)], before) {
			t.Errorf("%s: what was handed in is another", what)
		}
	}
}

func TestP18_12_DecodeTouchesAndKeepsNothing(t *testing.T) {
	for _, base := range rowsOf() {
		s := mustSign(t, 4, base, 16)
		data := mustEncode(t, s)
		for _, n := range []int{len(data), len(data) - 1, 3, 0} {
			given := roomy(data[:n], 300, 0xa5)
			before := bytes.Clone(given[:cap(given)])
			got, errno := delta.Decode(given)
			wantUntouched(t, "Decode", given, before)
			fill(given, 0x77)
			if n == len(data) && (errno != api.OK || !likeSignature(got, s)) {
				t.Errorf("Decode of %d bytes: written over behind it", n)
			}
			fillBlocks(got.Blocks)
			wantUntouched(t, "Decode, its answer written over", given, times(len(before), 0x77))
		}
	}
}

func TestP18_12_MakeTouchesAndKeepsNothing(t *testing.T) {
	for _, base := range rowsOf() {
		for _, target := range append(rowsOf(), times(api.MaxFile+1, 1)) {
			s := roomySignature(mustSign(t, 4, base, 16))
			blocks := slices.Clone(s.Blocks[:cap(s.Blocks)])
			given := roomy(target, 300, 0xa5)
			before := bytes.Clone(given[:cap(given)])
			want, wanted := makeByWords(s, target)
			data, errno := delta.Make(s, given)
			wantUntouched(t, "Make", given, before)
			if !slices.Equal(s.Blocks[:cap(s.Blocks)], blocks) {
				t.Errorf("Make: the signature that was handed in is another")
			}
			fill(given, 0x77)
			fillBlocks(s.Blocks)
			if errno != wanted || !bytes.Equal(data, want) {
				t.Errorf("Make of %d bytes and %d: written over behind it", len(base), len(target))
			}
			fill(data, 0x11)
			wantUntouched(t, "Make, its answer written over", given, times(len(before), 0x77))
		}
	}
}

func TestP18_12_ApplyTouchesAndKeepsNothing(t *testing.T) {
	for _, base := range rowsOf() {
		for _, target := range rowsOf() {
			data := mustMake(t, mustSign(t, 32, base, 16), target)
			givenBase, givenData := roomy(base, 300, 0xa5), roomy(data, 300, 0xa5)
			beforeBase, beforeData := bytes.Clone(givenBase[:cap(givenBase)]), bytes.Clone(givenData[:cap(givenData)])
			got, errno := delta.Apply(givenBase, givenData)
			wantUntouched(t, "Apply, the base", givenBase, beforeBase)
			wantUntouched(t, "Apply, the delta", givenData, beforeData)
			fill(givenBase, 0x77)
			fill(givenData, 0x78)
			if errno != api.OK || !bytes.Equal(got, target) {
				t.Errorf("Apply of %d bytes to %d: written over behind it", len(base), len(target))
			}
			fill(got, 0x11)
			wantUntouched(t, "Apply, its answer written over", givenBase, times(len(beforeBase), 0x77))
			wantUntouched(t, "Apply, its answer written over", givenData, times(len(beforeData), 0x78))
		}
	}
}

// Where it is refused nothing is touched either.
func TestP18_12_RefusedTouchesNothing(t *testing.T) {
	base, _, _ := stock(8)
	givenBase := roomy(base, 300, 0xa5)
	beforeBase := bytes.Clone(givenBase[:cap(givenBase)])
	for what, data := range wrongDrafts() {
		given := roomy(data, 300, 0xa5)
		before := bytes.Clone(given[:cap(given)])
		delta.Apply(givenBase, given)
		delta.Decode(given)
		wantUntouched(t, what, given, before)
		wantUntouched(t, what, givenBase, beforeBase)
	}
}

// Two answers, the room behind them too, have nothing in common.
func TestP18_12_AnswersAreApart(t *testing.T) {
	for _, base := range rowsOf() {
		one, two := mustSign(t, 4, base, 16), mustSign(t, 4, base, 16)
		form, made := mustEncode(t, two), mustMake(t, two, row("xAyB"))
		for _, other := range []func() []byte{
			func() []byte { return mustEncode(t, two) },
			func() []byte { return mustMake(t, two, row("xAyB")) },
			func() []byte { got, _ := delta.Apply(base, made); return got },
		} {
			first, second := other(), other()
			want := bytes.Clone(second)
			fill(first, 0x5a)
			grown := append(first, "more"...)
			if !bytes.Equal(second, want) || !bytes.HasSuffix(grown, []byte("more")) {
				t.Errorf("%d bytes: the second answer hangs on the first", len(base))
			}
		}
		back, _ := delta.Decode(form)
		again, _ := delta.Decode(form)
		fillBlocks(one.Blocks)
		fillBlocks(back.Blocks)
		if want, _ := signByWords(4, base, 16); !likeSignature(two, want) || !likeSignature(again, want) {
			t.Errorf("%d bytes: the second signature hangs on the first", len(base))
		}
	}
}

func TestP18_12_NoBytesAreNewToo(t *testing.T) {
	base := roomy(nil, 50, 0xa5)
	before := bytes.Clone(base[:cap(base)])
	data := mustMake(t, mustSign(t, 4, base, 16), nil)
	one, _ := delta.Apply(base, data)
	two, _ := delta.Apply(base, data)
	grown := [][]byte{append(one, "one"...), append(two, "two"...)}
	s, o := mustSign(t, 4, base, 16), mustSign(t, 4, base, 16)
	blocks := [][]api.Weak{append(s.Blocks, api.Weak{Sum: 1}), append(o.Blocks, api.Weak{Sum: 2})}
	wantUntouched(t, "appended to", base, before)
	if string(grown[0]) != "one" || string(grown[1]) != "two" || blocks[0][0].Sum != 1 || blocks[1][0].Sum != 2 {
		t.Errorf("answers without anything share their room: %q, %v", grown, blocks)
	}
}

// W1: numbers at their ends, in all places at once too.
func TestW1_AnyNumbers(t *testing.T) {
	numbers := []int{math.MinInt, -1, 0, 1, 16, 32, 33, 4096, api.MaxNumber, math.MaxInt}
	for _, width := range numbers {
		for _, size := range numbers {
			wantSign(t, "any numbers", width, row("AB"), size)
			for _, length := range numbers {
				for _, blocks := range [][]api.Weak{nil, {{}}, {{Sum: math.MinInt}, {Sum: math.MaxInt}}} {
					s := api.Signature{Width: width, Size: size, Length: length, Blocks: blocks}
					wantEncode(t, "any numbers", s)
					wantMake(t, "any numbers", s, row("AB"))
				}
			}
		}
	}
}

// W2: nothing is kept from call to call.
func TestW2_TheSameEachTime(t *testing.T) {
	base, target, d := stock(8)
	for _, between := range rowsOf() {
		s := mustSign(t, 8, between, 16)
		delta.Make(s, base)
		delta.Apply(between, d.bytes())
		delta.Decode(d.bytes())
		wantSign(t, "once more", 8, base, 16)
		wantMake(t, "once more", mustSign(t, 8, base, 16), target)
		wantMade(t, "once more", base, d.bytes(), target)
	}
}

func TestW2_ByManyAtOnce(t *testing.T) {
	base := letters(noise(), 3000, 2)
	target := slices.Concat(base[100:1000], []byte("x"), base)
	s := mustSign(t, 2, base, 16)
	form, made := mustEncode(t, s), mustMake(t, s, target)
	wrong := 0
	var lock sync.Mutex
	var all sync.WaitGroup
	for range 8 {
		all.Go(func() {
			signed, _ := delta.Sign(2, base, 16)
			encoded, _ := delta.Encode(s)
			decoded, _ := delta.Decode(form)
			again, _ := delta.Make(s, target)
			_, errno := delta.Decode(made)
			back, _ := delta.Apply(base, made)
			if !likeSignature(signed, s) || !bytes.Equal(encoded, form) || !likeSignature(decoded, s) || !bytes.Equal(again, made) || errno != api.ErrDelta || !bytes.Equal(back, target) {
				lock.Lock()
				wrong++
				lock.Unlock()
			}
		})
	}
	all.Wait()
	if wrong != 0 {
		t.Errorf("%d of many: another answer", wrong)
	}
}

// W5: a nil list and an empty one are the same.
func TestW5_NilAndEmpty(t *testing.T) {
	for _, width := range []int{0, 1, 32} {
		one, errno := delta.Sign(width, nil, 16)
		two, other := delta.Sign(width, []byte{}, 16)
		if errno != other || !likeSignature(one, two) {
			t.Errorf("Sign of nothing: %d and %d", errno, other)
		}
	}
	s := mustSign(t, 4, nil, 16)
	want, _ := encodeByWords(s)
	for _, blocks := range [][]api.Weak{nil, {}} {
		s.Blocks = blocks
		if data := mustEncode(t, s); !bytes.Equal(data, want) {
			t.Errorf("Encode without blocks: % x", data)
		}
		for _, target := range [][]byte{nil, {}} {
			data := mustMake(t, s, target)
			for _, base := range [][]byte{nil, {}} {
				wantMade(t, "nothing", base, data, nil)
			}
		}
	}
	for _, none := range [][]byte{nil, {}} {
		wantNoDecode(t, "nothing", none)
		wantNoApply(t, "nothing", none, none, api.ErrDelta)
	}
}
