package roll_test

import (
	"bytes"
	"fmt"
	"iter"
	"math"
	"testing"

	"freight/api"
	"freight/roll"
)

func TestP3_5_Examples(t *testing.T) {
	data := []byte("abcd")
	wantWindows(t, "abcd by 3", allOf(roll.Windows(data, 3)), []found{{0, roll.Sum([]byte("abc"))}, {1, roll.Sum([]byte("bcd"))}})
	wantWindows(t, "abcd by 3, in numbers", allOf(roll.Windows(data, 3)), []found{{0, 38404390}, {1, byWords([]byte("bcd"))}})
	wantWindows(t, "abcd by 5", allOf(roll.Windows(data, 5)), nil)
	wantWindows(t, "abcd by 0", allOf(roll.Windows(data, 0)), nil)
	wantWindows(t, "none by 1", allOf(roll.Windows(nil, 1)), nil)
	wantWindows(t, "none by 1", allOf(roll.Windows([]byte{}, 1)), nil)
}

func TestP3_5_NoWindows(t *testing.T) {
	for _, n := range []int{0, 1, 2, 100} {
		for _, size := range []int{math.MinInt, math.MinInt + 1, -n, -1, 0, n + 1, n + 2, 65536 + n, 1<<32 + n, 1 << 62, math.MaxInt - 1, math.MaxInt} {
			if size > 0 && size <= n {
				continue
			}
			windows := roll.Windows(make([]byte, n), size)
			if windows == nil {
				t.Fatalf("%d bytes by %d: no iterator", n, size)
			}
			for at, sum := range windows {
				t.Errorf("%d bytes by %d: %d, %d", n, size, at, sum)
			}
		}
	}
}

// Spare room behind the data is no data.
func TestP3_5_RoomIsNotCounted(t *testing.T) {
	data := roomy([]byte("abcd"), 50, 'x')
	wantWindows(t, "by 5", allOf(roll.Windows(data, 5)), nil)
	wantWindows(t, "by 4", allOf(roll.Windows(data, 4)), byWordsAll([]byte("abcd"), 4))
	wantWindows(t, "by 1", allOf(roll.Windows(data, 1)), byWordsAll([]byte("abcd"), 1))
}

func TestP3_5_EverySize(t *testing.T) {
	r := noise()
	for _, n := range []int{1, 2, 3, 17, 60} {
		data := noiseBytes(r, n)
		for size := -1; size <= n+2; size++ {
			got := allOf(roll.Windows(data, size))
			wantWindows(t, fmt.Sprint(n, " bytes by ", size), got, byWordsAll(data, size))
			if size >= 1 && size <= n && len(got) != n-size+1 {
				t.Errorf("%d bytes by %d: %d windows", n, size, len(got))
			}
		}
	}
}

// The size of a window is not bound by MaxBlock here, and its number may go round 65536.
func TestP3_5_LongWindows(t *testing.T) {
	r := noise()
	for _, size := range []int{300, api.MaxBlock, api.MaxBlock + 1, 65535, 65536, 65537, 70000} {
		data := high(r, size+40)
		wantWindows(t, fmt.Sprint("by ", size), allOf(roll.Windows(data, size)), byWordsAll(data, size))
		wantWindows(t, fmt.Sprint("all by ", size), allOf(roll.Windows(data[:size], size)), byWordsAll(data[:size], size))
	}
}

func TestP3_5_AgainAndAgain(t *testing.T) {
	data := noiseBytes(noise(), 40)
	windows := roll.Windows(data, 7)
	for range 5 {
		wantWindows(t, "again", allOf(windows), byWordsAll(data, 7))
	}
}

func TestP3_5_InsideOfItself(t *testing.T) {
	data := noiseBytes(noise(), 30)
	windows := roll.Windows(data, 6)
	want := byWordsAll(data, 6)
	var outer []found
	for at, sum := range windows {
		outer = append(outer, found{at, sum})
		var inner []found
		for at, sum := range windows {
			inner = append(inner, found{at, sum})
			for range windows {
				break
			}
		}
		wantWindows(t, "inside", inner, want)
	}
	wantWindows(t, "outside", outer, want)
}

func TestP3_5_LeftEarly(t *testing.T) {
	data := noiseBytes(noise(), 30)
	windows := roll.Windows(data, 6)
	want := byWordsAll(data, 6)
	for n := 1; n <= len(want); n++ {
		var got []found
		for at, sum := range windows {
			got = append(got, found{at, sum})
			if len(got) == n {
				break
			}
		}
		wantWindows(t, fmt.Sprint("left behind ", n), got, want[:n])
		wantWindows(t, fmt.Sprint("again, left once behind ", n), allOf(windows), want)
	}
}

// W1: told to stop, an iterator hands on nothing more.
func TestP3_5_ToldToStop(t *testing.T) {
	windows := roll.Windows(noiseBytes(noise(), 30), 6)
	for stop := range 25 {
		calls := 0
		windows(func(int, int) bool {
			calls++
			return calls <= stop
		})
		if calls != stop+1 {
			t.Errorf("told to stop behind %d: %d calls", stop+1, calls)
		}
	}
}

func TestP3_5_TwoPulledInTurns(t *testing.T) {
	data := noiseBytes(noise(), 30)
	windows := roll.Windows(data, 4)
	next, stop := iter.Pull2(windows)
	defer stop()
	late, stopLate := iter.Pull2(windows)
	defer stopLate()
	next()
	next()
	for _, want := range byWordsAll(data, 4) {
		next()
		if at, sum, ok := late(); !ok || at != want.at || sum != want.sum {
			t.Errorf("%d, %d, %v, want %v", at, sum, ok, want)
		}
	}
	if _, _, ok := late(); ok {
		t.Errorf("there is one more")
	}
}

func TestP3_5_WrittenOverBehindTheCall(t *testing.T) {
	data := noiseBytes(noise(), 40)
	for _, size := range []int{1, 5, 39, 40} {
		given := bytes.Clone(data)
		windows := roll.Windows(given, size)
		clear(given)
		want := byWordsAll(data, size)
		wantWindows(t, "ahead of the first loop", allOf(windows), want)
		copy(given, high(noise(), 40))
		wantWindows(t, "ahead of the second loop", allOf(windows), want)
	}
}

func TestP3_5_WrittenOverBetweenTwoWindows(t *testing.T) {
	data := noiseBytes(noise(), 40)
	for _, size := range []int{1, 5, 20, 39} {
		given := bytes.Clone(data)
		var got []found
		for at, sum := range roll.Windows(given, size) {
			got = append(got, found{at, sum})
			for i := range given {
				given[i] += byte(at + 1)
			}
		}
		wantWindows(t, fmt.Sprint("by ", size), got, byWordsAll(data, size))
	}
}

// A list that was cut, and grows into its room, does not make the iterator longer.
func TestP3_5_GrownBehindTheCall(t *testing.T) {
	given := make([]byte, 4, 10)
	copy(given, "abcd")
	windows := roll.Windows(given, 3)
	given = append(given, "efgh"...)
	wantWindows(t, "grown", allOf(windows), byWordsAll([]byte("abcd"), 3))
}
