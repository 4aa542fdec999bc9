package press_test

import (
	"bytes"
	"sync"
	"testing"

	"freight/api"
	"freight/press"
)

// kinds are rows that Pack takes by literals, by matches, by both.
func kinds() [][]byte {
	r := noise()
	return [][]byte{nil, {}, []byte("a"), []byte("ab"), []byte("aaaaaaa"), unlike(r, 50), letters(r, 300, 2), runs(r, 700), times(api.MaxBlock, 'x'), letters(r, api.MaxBlock, 256)}
}

func wantUntouched(t *testing.T, what string, list, before []byte) {
	t.Helper()
	if !bytes.Equal(list[:cap(list)], before) {
		t.Errorf("%s: what was handed in is another", what)
	}
}

// fill writes over a list, and over its room.
func fill(list []byte, b byte) {
	whole := list[:cap(list)]
	for i := range whole {
		whole[i] = b
	}
}

func TestP4_5_HandedInIsUntouched(t *testing.T) {
	for _, data := range append(kinds(), times(api.MaxBlock+1, 7)) {
		given := roomy(data, 5000, 0xa5)
		before := bytes.Clone(given[:cap(given)])
		packed, _ := press.Pack(given)
		wantUntouched(t, "Pack", given, before)
		fill(packed, 0x5a)
		wantUntouched(t, "Pack, its answer written over", given, before)
	}
	for _, data := range kinds() {
		given := roomy(mustPack(t, data), 5000, 0xa5)
		before := bytes.Clone(given[:cap(given)])
		for _, n := range []int{-1, 0, 1, len(data) - 1, len(data), len(data) + 1, api.MaxBlock, api.MaxBlock + 1} {
			got, _ := press.Unpack(given, n)
			wantUntouched(t, "Unpack", given, before)
			fill(got, 0x5a)
			wantUntouched(t, "Unpack, its answer written over", given, before)
		}
	}
}

func TestP4_5_HandedInIsNotKept(t *testing.T) {
	for _, data := range kinds() {
		given := roomy(data, 100, 1)
		packed := mustPack(t, given)
		before := bytes.Clone(packed)
		fill(given, 0x77)
		if !bytes.Equal(packed, before) {
			t.Errorf("Pack of %d bytes: written over behind it", len(data))
		}
		held := roomy(packed, 100, 1)
		got, _ := press.Unpack(held, len(data))
		fill(held, 0x77)
		if !bytes.Equal(got, data) {
			t.Errorf("Unpack to %d bytes: written over behind it", len(data))
		}
	}
}

// Two answers, their room too, have nothing in common.
func TestP4_5_AnswersAreApart(t *testing.T) {
	for _, data := range kinds() {
		one, other := mustPack(t, data), mustPack(t, data)
		fill(one, 0x5a)
		grown := append(one, "more"...)
		wantPacked(t, "behind one that was written over", data, other)
		back, errno := press.Unpack(other, len(data))
		again, _ := press.Unpack(other, len(data))
		fill(back, 0x5a)
		if errno != api.OK || !bytes.Equal(again, data) {
			t.Errorf("%d bytes: the second answer hangs on the first", len(data))
		}
		if !bytes.HasSuffix(grown, []byte("more")) {
			t.Errorf("%d bytes: what was appended is another", len(data))
		}
	}
}

// An answer of no bytes that grows writes into nothing that was handed in, nor into another answer.
func TestP4_5_NoBytesAreNewToo(t *testing.T) {
	given := roomy(nil, 50, 0xa5)
	before := bytes.Clone(given[:cap(given)])
	packed, _ := press.Pack(given)
	none, _ := press.Unpack(given, 0)
	again, _ := press.Unpack(given, 0)
	grown := [][]byte{append(packed, "one"...), append(none, "two"...), append(again, "six"...)}
	wantUntouched(t, "appended to", given, before)
	if string(grown[0]) != "one" || string(grown[1]) != "two" || string(grown[2]) != "six" {
		t.Errorf("answers of no bytes share their room: %q", grown)
	}
}

// W2: nothing is kept from call to call, and no order of a map is seen.
func TestW2_TheSameEachTime(t *testing.T) {
	for _, data := range kinds() {
		want := mustPack(t, data)
		for _, between := range kinds() {
			press.Pack(between)
			press.Unpack(between, 10)
			wantPacked(t, "once more", data, want)
			wantUnpacked(t, "once more", want, data)
		}
	}
}

func TestW2_ByManyAtOnce(t *testing.T) {
	data := runs(noise(), 3000)
	want := mustPack(t, data)
	packed, back := make([][]byte, 8), make([][]byte, 8)
	var all sync.WaitGroup
	for i := range packed {
		all.Go(func() {
			packed[i], _ = press.Pack(data)
			back[i], _ = press.Unpack(want, len(data))
		})
	}
	all.Wait()
	for i := range packed {
		if !bytes.Equal(packed[i], want) || !bytes.Equal(back[i], data) {
			t.Errorf("one of many: another answer")
		}
	}
}
