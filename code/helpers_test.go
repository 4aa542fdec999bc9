package code_test

import (
	"bytes"
	"encoding/hex"
	"fmt"
	"math/rand/v2"
	"strconv"
	"strings"
	"testing"

	"freight/api"
	"freight/code"
)

// unhex is the bytes that a text of hex digits and blanks tells.
func unhex(t *testing.T, text string) []byte {
	t.Helper()
	data, err := hex.DecodeString(strings.ReplaceAll(text, " ", ""))
	if err != nil {
		t.Fatal(err)
	}
	return data
}

// noise is the same row of numbers in every run.
func noise() *rand.Rand { return rand.New(rand.NewPCG(7, 31)) }

func noiseBytes(r *rand.Rand, n int) []byte {
	data := make([]byte, n)
	for i := range data {
		data[i] = byte(r.Uint32())
	}
	return data
}

// roomy is a copy of data with spare room that is full of one byte.
func roomy(data []byte, spare int, fill byte) []byte {
	whole := append(bytes.Clone(data), bytes.Repeat([]byte{fill}, spare)...)
	return whole[:len(data)]
}

// scribble writes over all of a list, its spare room too.
func scribble(data []byte, fill byte) {
	whole := data[:cap(data)]
	for i := range whole {
		whole[i] = fill
	}
}

func wantData(t *testing.T, w *code.Writer, want []byte) {
	t.Helper()
	got, errno := w.Data()
	if errno != api.OK || !bytes.Equal(got, want) {
		t.Errorf("Data: % x, %d; want % x, OK", got, errno, want)
	}
}

func wantRefused(t *testing.T, w *code.Writer) {
	t.Helper()
	got, errno := w.Data()
	if errno != api.ErrArg || len(got) != 0 {
		t.Errorf("Data: % x, %d; want nothing, ErrArg", got, errno)
	}
}

// A put is one call of a Writer.
type put func(w *code.Writer)

func putNumber(v int) put   { return func(w *code.Writer) { w.Number(v) } }
func putFixed(v, k int) put { return func(w *code.Writer) { w.Fixed(v, k) } }
func putRaw(s string) put   { return func(w *code.Writer) { w.Raw([]byte(s)) } }
func putText(s string) put  { return func(w *code.Writer) { w.Text([]byte(s)) } }

func written(puts ...put) *code.Writer {
	w := new(code.Writer)
	for _, p := range puts {
		p(w)
	}
	return w
}

// An ask is one call of a Reader; it tells the answer as a text.
type ask func(r *code.Reader) string

func number(r *code.Reader) string { return strconv.Itoa(r.Number()) }
func left(r *code.Reader) string   { return "left=" + strconv.Itoa(r.Left()) }
func fixed(k int) ask {
	return func(r *code.Reader) string { return strconv.Itoa(r.Fixed(k)) }
}
func raw(n int) ask {
	return func(r *code.Reader) string { return bracket(r.Raw(n)) }
}
func text(most int) ask {
	return func(r *code.Reader) string { return bracket(r.Text(most)) }
}
func fault(r *code.Reader) string {
	errno, place := r.Err()
	return fmt.Sprint(told(errno), "@", place)
}

func bracket(data []byte) string { return "[" + hex.EncodeToString(data) + "]" }

func told(errno api.Errno) string {
	switch errno {
	case api.OK:
		return "OK"
	case api.ErrArg:
		return "ErrArg"
	case api.ErrLong:
		return "ErrLong"
	case api.ErrShort:
		return "ErrShort"
	case api.ErrForm:
		return "ErrForm"
	}
	return strconv.Itoa(int(errno))
}

func answers(r *code.Reader, asks ...ask) string {
	var all []string
	for _, a := range asks {
		all = append(all, a(r))
	}
	return strings.Join(all, " ")
}
