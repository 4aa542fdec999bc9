package code_test

import (
	"bytes"
	"testing"

	"freight/api"
	"freight/code"
)

func TestP1_11_WhatIsHandedInStays(t *testing.T) {
	data := roomy([]byte{2, 'a', 'b', 0xac, 2}, 40, 7)
	whole := bytes.Clone(data[:cap(data)])
	check := func(what string) {
		t.Helper()
		if !bytes.Equal(data[:cap(data)], whole) {
			t.Fatalf("%s changed what was handed in", what)
		}
	}
	code.Sum(data)
	check("Sum")
	w := new(code.Writer)
	for range 3 {
		w.Raw(data)
		w.Number(1)
		check("Raw")
		w.Text(data)
		w.Fixed(1, 4)
		check("Text")
		w.Data()
		check("Data")
	}
	r := code.Read(data)
	check("Read")
	scribble(r.Text(9), 0xee)
	r.Number()
	r.Raw(0)
	check("a Reader")
}

func TestP1_11_WhatIsHandedInIsNotKept(t *testing.T) {
	for _, n := range []int{1, 3, 63, 64, 65, 200, 5000} {
		data := roomy(bytes.Repeat([]byte{'a'}, n), 64, 7)
		w := new(code.Writer)
		w.Raw(data)
		w.Text(data)
		scribble(data, 0xee)
		want := written(putRaw(string(bytes.Repeat([]byte{'a'}, n))), putText(string(bytes.Repeat([]byte{'a'}, n))))
		same, _ := want.Data()
		wantData(t, w, same)
	}
}

func TestP1_11_DataIsNewMemory(t *testing.T) {
	for _, n := range []int{0, 1, 3, 63, 64, 65, 127, 128, 200, 5000} {
		row := string(bytes.Repeat([]byte{'a'}, n))
		w := written(putRaw(row))
		one, _ := w.Data()
		two, _ := w.Data()
		scribble(one, 0xee)
		if string(two) != row {
			t.Errorf("%d bytes: two answers of Data share memory", n)
		}
		wantData(t, w, []byte(row))
		w.Text([]byte("crate"))
		if !bytes.Equal(one[:cap(one)], bytes.Repeat([]byte{0xee}, cap(one))) {
			t.Errorf("%d bytes: what was written later came into an answer of Data", n)
		}
		scribble(one, 0xdd)
		wantData(t, w, []byte(row+"\x05crate"))
	}
}

func TestP1_11_WhatIsReadIsNewMemory(t *testing.T) {
	data := []byte("abcd\x03efg\x00hi")
	r := code.Read(data)
	first := r.Raw(4)
	second := r.Text(9)
	empty := r.Text(9)
	scribble(first, 0xee)
	scribble(empty, 0xee)
	if string(second) != "efg" {
		t.Errorf("two answers share memory: % x", second)
	}
	scribble(second, 0xdd)
	if !bytes.Equal(first[:cap(first)], bytes.Repeat([]byte{0xee}, cap(first))) {
		t.Errorf("two answers share memory: % x", first)
	}
	scribble(r.Raw(0), 0xee)
	if got := r.Raw(2); string(got) != "hi" {
		t.Errorf("an answer shares memory with its Reader: % x", got)
	}
	if string(data) != "abcd\x03efg\x00hi" {
		t.Errorf("an answer shares memory with what was handed in: % x", data)
	}
}

func TestP1_11_WritersInTurns(t *testing.T) {
	var one, two code.Writer
	for i := range 200 {
		one.Number(i)
		two.Fixed(i, 2)
	}
	var first, second []byte
	for i := range 200 {
		a, _ := written(putNumber(i)).Data()
		first = append(first, a...)
		second = append(second, byte(i>>8), byte(i))
	}
	wantData(t, &one, first)
	wantData(t, &two, second)
	one.Number(-1)
	wantRefused(t, &one)
	wantData(t, &two, second)
	two.Number(1)
	wantData(t, &two, append(second, 1))
	wantData(t, new(code.Writer), nil)
}

func TestP1_11_ReadersInTurns(t *testing.T) {
	data := []byte{1, 2, 3, 4}
	one, two := code.Read(data), code.Read(data)
	if got := answers(one, number, number); got != "1 2" {
		t.Errorf("the first: %s", got)
	}
	if got := answers(two, number, left, raw(9), fault); got != "1 left=3 [] ErrShort@1" {
		t.Errorf("the second: %s", got)
	}
	if got := answers(one, left, fault, fixed(2), left, fault); got != "left=2 OK@0 772 left=0 OK@0" {
		t.Errorf("the first, behind the second's error: %s", got)
	}
	if got := answers(code.Read(data), number, left, fault); got != "1 left=3 OK@0" {
		t.Errorf("a third: %s", got)
	}
}

func TestP1_11_CopiesGoOnAlone(t *testing.T) {
	for n := range 200 {
		row := bytes.Repeat([]byte{'a'}, n)
		var one code.Writer
		one.Raw(row)
		two := one
		one.Raw([]byte("bcd"))
		two.Raw([]byte("xy"))
		three := two
		three.Number(-1)
		wantData(t, &one, append(bytes.Clone(row), "bcd"...))
		wantData(t, &two, append(bytes.Clone(row), "xy"...))
		wantRefused(t, &three)
	}
	one := code.Read([]byte{1, 2, 3})
	two := *one
	two.Raw(9)
	scribble(one.Raw(1), 0xee)
	if got := answers(one, number, left, fault); got != "2 left=1 OK@0" {
		t.Errorf("the first: %s", got)
	}
	if errno, place := two.Err(); errno != api.ErrShort || place != 0 {
		t.Errorf("the copy: %s@%d", told(errno), place)
	}
}
