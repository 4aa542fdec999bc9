package code_test

import (
	"bytes"
	"math"
	"testing"

	"freight/api"
	"freight/code"
)

func wantAnswers(t *testing.T, data string, want string, asks ...ask) {
	t.Helper()
	if got := answers(code.Read(unhex(t, data)), asks...); got != want {
		t.Errorf("Read of %q: %s; want %s", data, got, want)
	}
}

func TestP1_5_NumberTaken(t *testing.T) {
	for _, c := range []struct{ data, want string }{
		{"00", "0 left=0 OK@0"},
		{"01", "1 left=0 OK@0"},
		{"7f", "127 left=0 OK@0"},
		{"80 01", "128 left=0 OK@0"},
		{"ff 01", "255 left=0 OK@0"},
		{"ac 02", "300 left=0 OK@0"},
		{"ff 7f", "16383 left=0 OK@0"},
		{"80 80 01", "16384 left=0 OK@0"},
		{"ff ff 7f", "2097151 left=0 OK@0"},
		{"80 80 80 01", "2097152 left=0 OK@0"},
		{"ff ff ff 7f", "268435455 left=0 OK@0"},
		{"80 80 80 80 01", "268435456 left=0 OK@0"},
		{"ff ff ff ff 07", "2147483647 left=0 OK@0"},
		{"00 00", "0 left=1 OK@0"},
		{"7f 80", "127 left=1 OK@0"},
		{"80 01 80 00", "128 left=2 OK@0"},
		{"ff ff ff ff 07 ff", "2147483647 left=1 OK@0"},
	} {
		wantAnswers(t, c.data, c.want, number, left, fault)
	}
}

func TestP1_5_NumberRefused(t *testing.T) {
	for _, c := range []struct{ data, want string }{
		{"", "ErrShort@0"},
		{"80", "ErrShort@0"},
		{"ff ff", "ErrShort@0"},
		{"80 80 80", "ErrShort@0"},
		{"80 80 80 80", "ErrShort@0"},
		{"ff ff ff ff", "ErrShort@0"},
		{"80 80 80 80 80", "ErrForm@0"},
		{"80 80 80 80 80 01", "ErrForm@0"},
		{"ff ff ff ff ff ff", "ErrForm@0"},
		{"ff ff ff ff 08", "ErrForm@0"},
		{"80 80 80 80 08", "ErrForm@0"},
		{"80 80 80 80 10", "ErrForm@0"},
		{"80 80 80 80 7f", "ErrForm@0"},
		{"80 00", "ErrForm@0"},
		{"ff 00", "ErrForm@0"},
		{"80 80 00", "ErrForm@0"},
		{"81 80 80 00", "ErrForm@0"},
		{"ff ff ff ff 00", "ErrForm@0"},
		{"80 00 01", "ErrForm@0"},
	} {
		wantAnswers(t, c.data, "0 left=0 "+c.want, number, left, fault)
	}
}

func TestP1_5_Fixed(t *testing.T) {
	wantAnswers(t, "07", "7 left=0 OK@0", fixed(1), left, fault)
	wantAnswers(t, "01 02", "258 left=0 OK@0", fixed(2), left, fault)
	wantAnswers(t, "01 02 03", "66051 left=0 OK@0", fixed(3), left, fault)
	wantAnswers(t, "ff ff ff ff 01", "4294967295 left=1 OK@0", fixed(4), left, fault)
	wantAnswers(t, "00 00 80 00", "32768 left=0 OK@0", fixed(4), left, fault)
	for k, short := range []string{1: "", 2: "01", 3: "01 02", 4: "01 02 03"} {
		if k > 0 {
			wantAnswers(t, short, "0 left=0 ErrShort@0", fixed(k), left, fault)
		}
	}
	for _, k := range []int{0, -1, -8, 5, 8, 64, math.MinInt, math.MaxInt} {
		wantAnswers(t, "01 02 03 04 05 06 07 08 09", "0 left=0 ErrArg@0", fixed(k), left, fault)
		wantAnswers(t, "", "0 left=0 ErrArg@0", fixed(k), left, fault)
	}
}

func TestP1_5_Raw(t *testing.T) {
	wantAnswers(t, "", "[] left=0 OK@0", raw(0), left, fault)
	wantAnswers(t, "61 62 63", "[] left=3 [6162] left=1 [63] left=0 [] OK@0",
		raw(0), left, raw(2), left, raw(1), left, raw(0), fault)
	for _, n := range []int{4, 5, 1 << 40, math.MaxInt} {
		wantAnswers(t, "61 62 63", "[] left=0 ErrShort@0", raw(n), left, fault)
		wantAnswers(t, "61 62 63", "97 [] left=0 ErrShort@1", number, raw(n), left, fault)
	}
	for _, n := range []int{-1, math.MinInt} {
		wantAnswers(t, "61 62 63", "[] left=0 ErrArg@0", raw(n), left, fault)
		wantAnswers(t, "", "[] left=0 ErrArg@0", raw(n), left, fault)
	}
}

func TestP1_5_TextTaken(t *testing.T) {
	wantAnswers(t, "00", "[] left=0 OK@0", text(0), left, fault)
	wantAnswers(t, "00 61", "[] left=1 OK@0", text(9), left, fault)
	wantAnswers(t, "02 61 62 63", "[6162] left=1 OK@0", text(2), left, fault)
	wantAnswers(t, "02 61 62", "[6162] left=0 OK@0", text(math.MaxInt), left, fault)
	long := bytes.Repeat([]byte{'x'}, 300)
	r := code.Read(append([]byte{0xac, 2}, long...))
	if got := r.Text(300); !bytes.Equal(got, long) || r.Left() != 0 {
		t.Errorf("Text of 300 bytes: %d bytes, %d left", len(got), r.Left())
	}
}

func TestP1_5_TextRefused(t *testing.T) {
	for _, c := range []struct {
		data string
		most int
		want string
	}{
		{"03 61 62 63", -1, "ErrArg@0"},
		{"03 61 62 63", math.MinInt, "ErrArg@0"},
		{"", -1, "ErrArg@0"},
		{"80 00", -1, "ErrArg@0"},
		{"", 9, "ErrShort@0"},
		{"80", 0, "ErrShort@0"},
		{"80 80 80 80", 9, "ErrShort@0"},
		{"80 00", 9, "ErrForm@0"},
		{"83 00 61 62 63", 9, "ErrForm@0"},
		{"80 80 80 80 80", 0, "ErrForm@0"},
		{"ff ff ff ff 08", 0, "ErrForm@0"},
		{"01 61", 0, "ErrLong@0"},
		{"03 61 62 63", 2, "ErrLong@0"},
		{"03 61 62", 2, "ErrLong@0"},
		{"ff ff ff ff 07", 9, "ErrLong@0"},
		{"03 61 62", 9, "ErrShort@0"},
		{"03 61 62", 3, "ErrShort@0"},
		{"01", 1, "ErrShort@0"},
		{"ff ff ff ff 07 61", api.MaxNumber, "ErrShort@0"},
		{"ff ff ff ff 07 61", math.MaxInt, "ErrShort@0"},
	} {
		wantAnswers(t, c.data, "[] left=0 "+c.want, text(c.most), left, fault)
		// The place is where the call began, not where its bytes lie.
		moved := c.want[:len(c.want)-1] + "2"
		wantAnswers(t, "aa bb"+c.data, "43707 [] left=0 "+moved, fixed(2), text(c.most), left, fault)
	}
}

func TestP1_5_Examples(t *testing.T) {
	wantAnswers(t, "01 02 03", "258 3 left=0 0 left=0 ErrShort@3", fixed(2), number, left, number, left, fault)
	wantAnswers(t, "03 61 62", "[] ErrShort@0", text(9), fault)
	wantAnswers(t, "03 61 62", "[] ErrLong@0", text(2), fault)
	wantAnswers(t, "07", "0 0 ErrArg@0", fixed(5), number, fault)
}

func TestP1_5_ASpoiltReaderAnswersZero(t *testing.T) {
	spoilers := []struct {
		ask  ask
		want string
	}{
		{raw(9), "ErrShort@1"}, {raw(-1), "ErrArg@1"}, {fixed(0), "ErrArg@1"},
		{text(1), "ErrLong@1"}, {text(9), "ErrShort@1"}, {text(-1), "ErrArg@1"},
	}
	// Some of these could be met, some would be refused for another reason.
	others := []ask{number, fixed(1), raw(0), raw(1), text(9), fixed(9), raw(-1), raw(99), text(-1), text(0), text(3)}
	for _, s := range spoilers {
		r := code.Read(unhex(t, "05 03 01 02"))
		if got := answers(r, left, number, left, fault); got != "left=4 5 left=3 OK@0" {
			t.Errorf("ahead of the error: %s", got)
		}
		s.ask(r)
		for range 2 {
			for i, a := range others {
				if got := a(r); got != "0" && got != "[]" {
					t.Errorf("call %d of a spoilt Reader: %s", i, got)
				}
				if got := answers(r, left, fault); got != "left=0 "+s.want {
					t.Errorf("behind call %d of a spoilt Reader: %s; want left=0 %s", i, got, s.want)
				}
			}
		}
	}
	wantAnswers(t, "05 80 00 07", "5 0 ErrForm@1 0 [] left=0 ErrForm@1", number, number, fault, fixed(1), raw(9), left, fault)
}

func TestP1_5_AListThatIsWrittenOverLater(t *testing.T) {
	data := roomy([]byte{1, 2, 'a', 'b', 0xac, 2}, 8, 7)
	r := code.Read(data)
	scribble(data, 0xee)
	if got := answers(r, left, number, text(9), number, left, fault); got != "left=6 1 [6162] 300 left=0 OK@0" {
		t.Errorf("what was read is not what there was: %s", got)
	}
}

func TestP1_6_LeftAndErr(t *testing.T) {
	wantAnswers(t, "01 02 03 04", "left=4 OK@0 left=4 1 left=3 OK@0 515 left=1 OK@0 [] left=0 ErrShort@3 ErrShort@3",
		left, fault, left, number, left, fault, fixed(2), left, fault, raw(2), left, fault, fault)
	wantAnswers(t, "01 61 80", "[61] OK@0 left=1 0 left=0 ErrShort@2", text(1), fault, left, number, left, fault)
}

func TestP1_7_NilReader(t *testing.T) {
	var r *code.Reader
	asks := []ask{number, fixed(1), fixed(4), fixed(0), fixed(-1), raw(0), raw(1), raw(-1), text(0), text(9), text(-1)}
	for i, a := range asks {
		if got := a(r); got != "0" && got != "[]" {
			t.Errorf("call %d of a nil Reader: %s", i, got)
		}
		if got := answers(r, left, fault); got != "left=0 OK@0" {
			t.Errorf("behind call %d of a nil Reader: %s", i, got)
		}
	}
}

func TestP1_7_ReaderOfNoBytes(t *testing.T) {
	makers := []func() *code.Reader{
		func() *code.Reader { return new(code.Reader) },
		func() *code.Reader { return code.Read(nil) },
		func() *code.Reader { return code.Read([]byte{}) },
		func() *code.Reader { return code.Read(roomy(nil, 9, 1)) },
	}
	for i, empty := range makers {
		for _, c := range []struct {
			ask  ask
			want string
		}{
			{left, "left=0 left=0 OK@0"},
			{fault, "OK@0 left=0 OK@0"},
			{number, "0 left=0 ErrShort@0"},
			{fixed(1), "0 left=0 ErrShort@0"},
			{fixed(0), "0 left=0 ErrArg@0"},
			{raw(0), "[] left=0 OK@0"},
			{raw(1), "[] left=0 ErrShort@0"},
			{raw(-1), "[] left=0 ErrArg@0"},
			{text(0), "[] left=0 ErrShort@0"},
			{text(-1), "[] left=0 ErrArg@0"},
		} {
			if got := answers(empty(), c.ask, left, fault); got != c.want {
				t.Errorf("maker %d: %s; want %s", i, got, c.want)
			}
		}
	}
}
