package roll_test

import (
	"bytes"
	"slices"
	"sync"
	"testing"

	"freight/roll"
)

func TestW2_TwoRollsInTurns(t *testing.T) {
	noises := noise()
	one, other := noiseBytes(noises, 20+200), noiseBytes(noises, 33+200)
	r, s := mustNew(t, one[:20]), mustNew(t, other[:33])
	for i := range 200 {
		wantOut(t, "the first", r.Push(one[20+i]), one[i])
		if i%3 != 0 {
			wantOut(t, "a push of none", (&roll.Roll{}).Push(7), 0)
		}
		wantOut(t, "the second", s.Push(other[33+i]), other[i])
		wantSum(t, "the first", r.Sum(), byWords(one[i+1:i+21]))
		wantSum(t, "the second", s.Sum(), byWords(other[i+1:i+34]))
	}
}

func TestW2_TwoRollsOfOneList(t *testing.T) {
	window := []byte("pallet")
	r, s := mustNew(t, window), mustNew(t, window)
	for range 20 {
		r.Push('x')
	}
	wantSum(t, "the other", s.Sum(), byWords(window))
	for _, x := range window {
		wantOut(t, "the other", s.Push('y'), x)
	}
	wantSum(t, "the first", r.Sum(), byWords([]byte("xxxxxx")))
}

func TestW2_TwoWindowsOfOneList(t *testing.T) {
	data := noiseBytes(noise(), 50)
	short, long := roll.Windows(data, 3), roll.Windows(data, 31)
	var got []found
	for at, sum := range short {
		got = append(got, found{at, sum})
		wantWindows(t, "the long ones", allOf(long), byWordsAll(data, 31))
	}
	wantWindows(t, "the short ones", got, byWordsAll(data, 3))
}

// One iterator, ranged over by many at once: nothing is kept in it from loop to loop.
func TestW2_RangedOverByMany(t *testing.T) {
	data := noiseBytes(noise(), 400)
	windows := roll.Windows(data, 16)
	got := make([][]found, 8)
	var all sync.WaitGroup
	for i := range got {
		all.Go(func() { got[i] = allOf(windows) })
	}
	all.Wait()
	for i := range got {
		wantWindows(t, "one of many", got[i], byWordsAll(data, 16))
	}
}

func wantUntouched(t *testing.T, what string, list, before []byte) {
	t.Helper()
	if !bytes.Equal(list[:cap(list)], before) {
		t.Errorf("%s: what was handed in is % x, was % x", what, list[:cap(list)], before)
	}
}

func TestW6_HandedInIsUntouched(t *testing.T) {
	noises := noise()
	for _, n := range []int{0, 1, 2, 16, 63, 300} {
		list := roomy(noiseBytes(noises, n), 100, 0xa5)
		before := slices.Clone(list[:cap(list)])
		roll.Sum(list)
		wantUntouched(t, "Sum", list, before)
		r, _ := roll.New(list)
		wantUntouched(t, "New", list, before)
		for i := range 2*n + 1 {
			r.Push(byte(i))
			r.Sum()
		}
		wantUntouched(t, "Push", list, before)
		for _, size := range []int{-1, 0, 1, n - 1, n, n + 1, n + 100} {
			for range roll.Windows(list, size) {
			}
			wantUntouched(t, "Windows", list, before)
		}
	}
}

func TestW6_HandedInIsNotKept(t *testing.T) {
	noises := noise()
	for _, n := range []int{1, 2, 16, 63, 300} {
		window := noiseBytes(noises, n)
		given := roomy(window, 50, 9)
		r := mustNew(t, given)
		copy(given[:cap(given)], times(n+50, 1))
		wantSum(t, "written over behind New", r.Sum(), byWords(window))
		for i, x := range window {
			wantOut(t, "written over behind New", r.Push(byte(i)), x)
			copy(given, times(n, byte(i)))
		}
	}
}
