package roll_test

import (
	"bytes"
	"fmt"
	"reflect"
	"testing"

	"freight/api"
	"freight/roll"
)

func TestP3_2_Refused(t *testing.T) {
	r := noise()
	for what, window := range map[string][]byte{
		"nil":                     nil,
		"none":                    {},
		"none, with spare room":   make([]byte, 0, 10),
		"one more than MaxBlock":  noiseBytes(r, api.MaxBlock+1),
		"4097 bytes":              make([]byte, 4097),
		"many more than MaxBlock": make([]byte, 1<<20),
	} {
		if got, errno := roll.New(window); got != nil || errno != api.ErrArg {
			t.Errorf("New of %s: %v, %d", what, got, errno)
		}
	}
}

func TestP3_2_Taken(t *testing.T) {
	r := noise()
	for _, n := range []int{1, 2, 3, api.MinBlock, 255, 256, 257, api.MaxBlock - 1, api.MaxBlock} {
		window := noiseBytes(r, n)
		wantSum(t, fmt.Sprint("New of ", n, " bytes"), mustNew(t, window).Sum(), byWords(window))
	}
}

// What counts is how many bytes there are, not how much room there is behind them.
func TestP3_2_RoomIsNotCounted(t *testing.T) {
	window := roomy([]byte("abc"), 2*api.MaxBlock, 7)
	r := mustNew(t, window)
	wantSum(t, "with spare room", r.Sum(), 38404390)
	wantOut(t, "with spare room", r.Push('d'), 'a')
	wantSum(t, "with spare room", r.Sum(), byWords([]byte("bcd")))
}

func TestP3_3_Examples(t *testing.T) {
	r := mustNew(t, []byte("abc"))
	wantOut(t, "Push d", r.Push('d'), 'a')
	wantSum(t, "behind d", r.Sum(), roll.Sum([]byte("bcd")))
	wantSum(t, "behind d, by the words", r.Sum(), byWords([]byte("bcd")))
	wantOut(t, "Push e", r.Push('e'), 'b')
	wantOut(t, "Push f", r.Push('f'), 'c')
	wantOut(t, "Push g", r.Push('g'), 'd')
	wantSum(t, "behind g", r.Sum(), byWords([]byte("efg")))
}

// pushAll pushes more along a window, and looks behind each push.
func pushAll(t *testing.T, window, more []byte) {
	t.Helper()
	r := mustNew(t, window)
	all := row(window, more)
	for i, x := range more {
		what := fmt.Sprint("a window of ", len(window), ", push ", i)
		wantOut(t, what, r.Push(x), all[i])
		wantSum(t, what, r.Sum(), byWords(all[i+1:i+1+len(window)]))
		if t.Failed() {
			return
		}
	}
}

func TestP3_3_SeveralTimesRound(t *testing.T) {
	r := noise()
	for n := 1; n <= 70; n++ {
		pushAll(t, noiseBytes(r, n), noiseBytes(r, 5*n+3))
	}
	for _, n := range []int{255, 256, 257, 300} {
		pushAll(t, high(r, n), high(r, 4*n+1))
		pushAll(t, high(r, n), make([]byte, n+1))
		pushAll(t, make([]byte, n), high(r, n+1))
	}
}

func TestP3_3_TheLongestWindow(t *testing.T) {
	r := noise()
	for _, n := range []int{api.MaxBlock - 1, api.MaxBlock} {
		pushAll(t, noiseBytes(r, n), noiseBytes(r, 2*n+1))
		pushAll(t, high(r, n), high(r, n+1))
	}
}

func TestP3_3_OneByte(t *testing.T) {
	r := mustNew(t, []byte{200})
	last := byte(200)
	for i := range 1000 {
		in := byte(31 * i)
		wantOut(t, fmt.Sprint("push ", i), r.Push(in), last)
		wantSum(t, fmt.Sprint("push ", i), r.Sum(), 65537*int(in))
		last = in
	}
}

func TestP3_3_SumIsNotAsked(t *testing.T) {
	noises := noise()
	for n := 1; n <= 50; n++ {
		for _, pushes := range []int{0, 1, n - 1, n, n + 1, 3*n + 2, 1000} {
			all := high(noises, n+pushes)
			r := mustNew(t, all[:n])
			for _, x := range all[n:] {
				r.Push(x)
			}
			wantSum(t, fmt.Sprint("a window of ", n, ", ", pushes, " pushes"), r.Sum(), byWords(all[pushes:]))
		}
	}
}

func TestP3_3_SumAskedAgainAndAgain(t *testing.T) {
	r := mustNew(t, []byte("pallet"))
	for range 10 {
		wantSum(t, "asked again", r.Sum(), byWords([]byte("pallet")))
	}
	r.Push('s')
	for range 10 {
		wantSum(t, "asked again behind a push", r.Sum(), byWords([]byte("allets")))
	}
}

func TestP3_3_EveryByteInAndOut(t *testing.T) {
	for out := range 256 {
		for in := range 256 {
			r := mustNew(t, []byte{byte(out), 9, 255})
			wantOut(t, "a byte", r.Push(byte(in)), byte(out))
			wantSum(t, fmt.Sprint(out, " out, ", in, " in"), r.Sum(), byWords([]byte{9, 255, byte(in)}))
		}
	}
}

func TestP3_4_NoWindow(t *testing.T) {
	var zero roll.Roll
	for what, r := range map[string]*roll.Roll{"nil": nil, "zero": &zero, "new": new(roll.Roll)} {
		wantSum(t, what, r.Sum(), 0)
		for i := range 600 {
			wantOut(t, what, r.Push(byte(i+1)), 0)
			wantSum(t, what+", behind a push", r.Sum(), 0)
		}
	}
	if !reflect.DeepEqual(zero, roll.Roll{}) {
		t.Errorf("Push changed a Roll without a window: %v", zero)
	}
}

// A Roll that New has refused is nil, and so has no window.
func TestP3_4_Refused(t *testing.T) {
	r, _ := roll.New(bytes.Repeat([]byte{1}, api.MaxBlock+1))
	wantOut(t, "a refused one", r.Push(5), 0)
	wantSum(t, "a refused one", r.Sum(), 0)
}
