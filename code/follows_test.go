package code_test

import (
	"bytes"
	"math/rand/v2"
	"strconv"
	"testing"

	"freight/api"
	"freight/code"
)

// A part is a call that writes something, and the call that reads it again.
type part struct {
	put  put
	ask  ask
	want string
}

func noisePart(r *rand.Rand) part {
	data := noiseBytes(r, r.IntN(1<<r.IntN(9)))
	v := r.IntN(1 << r.IntN(32))
	k := 1 + r.IntN(4)
	switch r.IntN(4) {
	case 0:
		return part{putNumber(v), number, strconv.Itoa(v)}
	case 1:
		v %= 1 << (8 * k)
		return part{putFixed(v, k), fixed(k), strconv.Itoa(v)}
	case 2:
		return part{putRaw(string(data)), raw(len(data)), bracket(data)}
	}
	return part{putText(string(data)), text(len(data) + r.IntN(3)), bracket(data)}
}

func TestP1_8_WhatWasWrittenIsRead(t *testing.T) {
	r := noise()
	for range 500 {
		var parts []part
		w := new(code.Writer)
		for range r.IntN(40) {
			p := noisePart(r)
			p.put(w)
			parts = append(parts, p)
		}
		data, errno := w.Data()
		if errno != api.OK {
			t.Fatalf("Data: %d", errno)
		}
		reader := code.Read(data)
		for i, p := range parts {
			if got := p.ask(reader); got != p.want {
				t.Fatalf("part %d: %s; want %s", i, got, p.want)
			}
		}
		if got := answers(reader, left, fault); got != "left=0 OK@0" {
			t.Fatalf("behind the last part: %s", got)
		}
	}
}

func TestP1_8_Edges(t *testing.T) {
	for _, v := range []int{0, 1, 127, 128, 16383, 16384, 2097151, 2097152, 268435455, 268435456, api.MaxNumber} {
		data, _ := written(putNumber(v)).Data()
		if got := answers(code.Read(data), number, left, fault); got != strconv.Itoa(v)+" left=0 OK@0" {
			t.Errorf("Number(%d): %s", v, got)
		}
	}
	for k := 1; k <= 4; k++ {
		for _, v := range []int{0, 1, 1<<(8*k-1) - 1, 1 << (8*k - 1), 1<<(8*k) - 1} {
			data, _ := written(putFixed(v, k)).Data()
			if got := answers(code.Read(data), fixed(k), left, fault); got != strconv.Itoa(v)+" left=0 OK@0" {
				t.Errorf("Fixed(%d, %d): %s", v, k, got)
			}
		}
	}
}

// numberByWords is what P1.5 says of Number, and how many bytes it takes.
func numberByWords(data []byte) (v, n int, errno api.Errno) {
	end := -1
	for i, b := range data {
		if b < 128 {
			end = i
			break
		}
	}
	switch {
	case end < 0 && len(data) < 5:
		return 0, 0, api.ErrShort
	case end < 0 || end > 4:
		return 0, 0, api.ErrForm
	}
	for i := end; i >= 0; i-- {
		v = v*128 + int(data[i]%128)
	}
	if v > api.MaxNumber || end > 0 && data[end] == 0 {
		return 0, 0, api.ErrForm
	}
	return v, end + 1, api.OK
}

// eachRow goes through all rows of at most n bytes out of some.
func eachRow(some []byte, n int, do func(row []byte)) {
	var grow func(row []byte)
	grow = func(row []byte) {
		do(row)
		if len(row) == n {
			return
		}
		for _, b := range some {
			grow(append(bytes.Clone(row), b))
		}
	}
	grow(nil)
}

func TestP1_9_OneFormOfANumber(t *testing.T) {
	eachRow([]byte{0, 1, 7, 8, 127, 128, 129, 255}, 6, func(row []byte) {
		r := code.Read(row)
		got := r.Number()
		errno, place := r.Err()
		v, n, want := numberByWords(row)
		if got != v || errno != want || place != 0 {
			t.Fatalf("Number of % x: %d, %s@%d; want %d, %s@0", row, got, told(errno), place, v, told(want))
		}
		if errno != api.OK {
			return
		}
		if r.Left() != len(row)-n {
			t.Fatalf("Number of % x: %d left", row, r.Left())
		}
		wantData(t, written(putNumber(got)), row[:n])
	})
}

// takeAndWrite takes one piece, and writes it if the Reader is not spoilt.
func takeAndWrite(r *code.Reader, w *code.Writer, kind, size int) bool {
	again := func() {}
	switch kind % 4 {
	case 0:
		v := r.Number()
		again = func() { w.Number(v) }
	case 1:
		k := 1 + size%4
		v := r.Fixed(k)
		again = func() { w.Fixed(v, k) }
	case 2:
		data := r.Raw(size)
		again = func() { w.Raw(data) }
	default:
		data := r.Text(size)
		again = func() { w.Text(data) }
	}
	if errno, _ := r.Err(); errno != api.OK {
		return false
	}
	again()
	return true
}

// wantTakenAgain takes pieces out of data as the plan says, up to the first
// that cannot be taken, and writes what was taken.
func wantTakenAgain(t *testing.T, data, plan []byte) {
	t.Helper()
	r := code.Read(data)
	w := new(code.Writer)
	taken := 0
	for _, p := range plan {
		if !takeAndWrite(r, w, int(p), int(p/4)) {
			break
		}
		taken = len(data) - r.Left()
	}
	if errno, place := r.Err(); errno != api.OK && place != taken {
		t.Errorf("% x: spoilt at %d, but %d bytes were taken", data, place, taken)
	}
	wantData(t, w, data[:taken])
}

func TestP1_9_WhatWasTakenIsWrittenAgain(t *testing.T) {
	r := noise()
	for range 5000 {
		data := noiseBytes(r, r.IntN(120))
		for i := range data {
			if r.IntN(2) == 0 {
				data[i] %= 8
			}
		}
		plan := noiseBytes(r, 30)
		for i := range plan {
			plan[i] %= 60
		}
		wantTakenAgain(t, data, plan)
	}
}

func FuzzTakenAgain(f *testing.F) {
	f.Add([]byte{1, 2, 'a', 'b', 0xac, 2, 0, 1}, []byte{0, 43, 0, 4})
	f.Add([]byte{0x80, 0, 0xff, 0xff, 0xff, 0xff, 8}, []byte{5, 0, 0})
	f.Fuzz(wantTakenAgain)
}
