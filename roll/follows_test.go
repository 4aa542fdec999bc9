package roll_test

import (
	"bytes"
	"fmt"
	"testing"

	"freight/api"
	"freight/roll"
)

func TestP3_6_SumOfItsWindow(t *testing.T) {
	noises := noise()
	for range 300 {
		n := 1 + noises.IntN(400)
		window := noiseBytes(noises, n)
		r := mustNew(t, window)
		for range noises.IntN(900) {
			in := byte(noises.Uint32())
			r.Push(in)
			window = append(window, in)
		}
		last := window[len(window)-n:]
		wantSum(t, fmt.Sprint("a window of ", n), r.Sum(), roll.Sum(last))
		wantSum(t, fmt.Sprint("a window of ", n, ", by the words"), r.Sum(), byWords(last))
	}
}

// Whatever goes in comes out, in its order, as many pushes later as the window has bytes.
func TestP3_6_OrderOfComing(t *testing.T) {
	noises := noise()
	for _, n := range []int{1, 2, 3, 16, 255, 256, 257, 1000, api.MaxBlock} {
		in := noiseBytes(noises, 4*n+5)
		r := mustNew(t, in[:n])
		var out []byte
		for _, x := range in[n:] {
			out = append(out, r.Push(x))
		}
		for range n { // and what still stands in it
			out = append(out, r.Push(0))
		}
		if !bytes.Equal(out, in) {
			t.Errorf("a window of %d: the bytes came out in another order", n)
		}
		wantSum(t, "noughts alone", r.Sum(), 0)
	}
}

// A Roll that comes to some bytes is as one that began with them.
func TestP3_6_WhereItBeganSaysNothing(t *testing.T) {
	noises := noise()
	for range 100 {
		n := 1 + noises.IntN(60)
		first, second, more := noiseBytes(noises, n), noiseBytes(noises, n), noiseBytes(noises, 150)
		moved, fresh := mustNew(t, first), mustNew(t, second)
		for _, x := range second {
			moved.Push(x)
		}
		for _, x := range more {
			wantSum(t, "moved and fresh", moved.Sum(), fresh.Sum())
			wantOut(t, "moved and fresh", moved.Push(x), fresh.Push(x))
		}
	}
}

func TestP3_7_AlikeBytes(t *testing.T) {
	for _, x := range []byte{0, 1, 127, 128, 254, 255} {
		for _, n := range []int{1, 2, 256, 257, 300, api.MaxBlock} {
			window := times(n, x)
			want := byWords(window)
			r := mustNew(t, window)
			for i := range 2*n + 1 {
				wantOut(t, "alike bytes", r.Push(x), x)
				if r.Sum() != want {
					t.Fatalf("%d bytes %d, push %d: %d, want %d", n, x, i, r.Sum(), want)
				}
			}
			for at, sum := range roll.Windows(times(n+50, x), n) {
				wantSum(t, fmt.Sprint(n, " bytes ", x, " at ", at), sum, want)
			}
		}
	}
}

// A run has one sum wherever it stands in a row.
func TestP3_7_WhereverItStands(t *testing.T) {
	noises := noise()
	run := noiseBytes(noises, 33)
	for ahead := range 60 {
		data := row(noiseBytes(noises, ahead), run, noiseBytes(noises, 20))
		seen := false
		for at, sum := range roll.Windows(data, len(run)) {
			if at == ahead {
				seen = true
				wantSum(t, fmt.Sprint("at ", at), sum, roll.Sum(run))
			}
		}
		if !seen {
			t.Errorf("no window at %d", ahead)
		}
	}
}

func wantBeside(t *testing.T, data []byte, size int) {
	t.Helper()
	r := mustNew(t, data[:size])
	count := 0
	for at, sum := range roll.Windows(data, size) {
		if at > 0 {
			wantOut(t, fmt.Sprint("by ", size, " at ", at), r.Push(data[at+size-1]), data[at-1])
		}
		wantSum(t, fmt.Sprint("by ", size, " at ", at), sum, r.Sum())
		count++
	}
	if count != len(data)-size+1 {
		t.Errorf("by %d: %d windows", size, count)
	}
}

func TestP3_7_BesideOneRoll(t *testing.T) {
	noises := noise()
	for size := 1; size <= 90; size++ {
		wantBeside(t, noiseBytes(noises, size+100), size)
	}
	for _, size := range []int{256, 257, 1000, api.MaxBlock} {
		wantBeside(t, noiseBytes(noises, 3*size), size)
		wantBeside(t, high(noises, 2*size), size)
	}
}

func FuzzPushed(f *testing.F) {
	f.Add([]byte("abc"), []byte("defg"))
	f.Add([]byte{255}, []byte{})
	f.Add(times(300, 255), times(301, 254))
	f.Fuzz(func(t *testing.T, window, more []byte) {
		if len(window) == 0 || len(window) > api.MaxBlock {
			if r, errno := roll.New(window); r != nil || errno != api.ErrArg {
				t.Errorf("%d bytes: %v, %d", len(window), r, errno)
			}
			return
		}
		pushAll(t, window, more)
	})
}

func FuzzWindows(f *testing.F) {
	f.Add([]byte("abcd"), 3)
	f.Add([]byte{}, 1)
	f.Add(times(300, 255), 299)
	f.Fuzz(func(t *testing.T, data []byte, size int) {
		wantWindows(t, "windows", allOf(roll.Windows(data, size)), byWordsAll(data, size))
	})
}
