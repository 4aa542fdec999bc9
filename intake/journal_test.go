package intake_test

import (
	"fmt"
	"math"
	"slices"
	"testing"

	"freight/api"
	"freight/intake"
)

const maxSum = 4294967295

// ids are n rising ids.
func ids(n int) []api.ID {
	var list []api.ID
	for i := range n {
		list = append(list, api.ID{byte(i), 31: byte(255 - i)})
	}
	return list
}

// full is a journal with something of each.
func full() api.Journal {
	return api.Journal{
		Bundle: "f.x", Entries: 258, Index: maxSum,
		Results: []api.Result{res(1, api.ID{9}, 255), res(2, api.ID{}, 0)},
		Need:    []api.ID{{}, {1}, {1, 31: 1}, {2}},
		Table:   []api.Result{res(1, api.ID{8}, 1), res(2, api.ID{}, 0), res(4, api.ID{7}, 44)},
	}
}

// with is a journal of which something is another.
func with(turn func(j *api.Journal)) api.Journal {
	j := full()
	turn(&j)
	return j
}

func diskNames() []string {
	return []string{"x", "0", ".", "..", "-", "_", "+", "++", "+f.x", "f.x", "c.a.import", times(111, "a"), times(112, "a"), "abcdefghijklmnopqrstuvwxyz0123456789.-_+"}
}

func noDiskNames() []string {
	return []string{
		"", "F", "f.X", "a b", " a", "a ", "a/b", "a\x00", "\x00", "\xff", "a\n", "\n", "\u00e4", "a,b", "a:b", "~", "*", "=", "{", "`", "@", "[",
		times(113, "a"), times(127, "a"), times(128, "a"), times(70000, "a"),
	}
}

// journals are some of all kinds, with all edges.
func journals() map[string]api.Journal {
	list := map[string]api.Journal{
		"full":               full(),
		"a bundle alone":     {Bundle: "b"},
		"empty lists":        with(func(j *api.Journal) { j.Results, j.Need, j.Table = []api.Result{}, []api.ID{}, []api.Result{} }),
		"no results":         with(func(j *api.Journal) { j.Results = nil }),
		"no need":            with(func(j *api.Journal) { j.Need = nil }),
		"no table":           with(func(j *api.Journal) { j.Table = nil }),
		"64 ids":             with(func(j *api.Journal) { j.Need = ids(64) }),
		"63 ids":             with(func(j *api.Journal) { j.Need = ids(63) }),
		"32 results":         with(func(j *api.Journal) { j.Results = resultsFrom(3, 32, api.ID{1}) }),
		"a table of 32":      with(func(j *api.Journal) { j.Table = resultsFrom(3, 32, api.ID{1}) }),
		"as much as may be":  {Bundle: times(112, "+"), Entries: maxSum, Index: maxSum, Results: resultsFrom(1, 32, api.ID{31: 1}), Need: ids(64), Table: resultsFrom(200, 32, api.ID{5})},
		"ids of all ones":    with(func(j *api.Journal) { j.Need = []api.ID{{}, api.ID([]byte(times(32, "\xff")))} }),
		"like lists":         with(func(j *api.Journal) { j.Results = slices.Clone(j.Table) }),
		"actions of one end": with(func(j *api.Journal) { j.Table = []api.Result{{}, {Action: api.ID{31: 1}}, {Action: api.ID{30: 1}}} }),
	}
	for _, sum := range []int{0, 1, 255, 256, 65535, 65536, 16777216, math.MaxInt32, math.MaxInt32 + 1, maxSum - 1, maxSum} {
		list[fmt.Sprint("entries ", sum)] = with(func(j *api.Journal) { j.Entries = sum })
		list[fmt.Sprint("index ", sum)] = with(func(j *api.Journal) { j.Index = sum })
	}
	for _, name := range diskNames() {
		list["bundle "+name] = with(func(j *api.Journal) { j.Bundle = name })
	}
	return list
}

// noJournals are journals with one thing that may not be.
func noJournals() map[string]api.Journal {
	list := map[string]api.Journal{
		"zero":     {},
		"65 ids":   with(func(j *api.Journal) { j.Need = ids(65) }),
		"1000 ids": with(func(j *api.Journal) { j.Need = slices.Repeat(ids(100), 10) }),
		"an id twice": with(func(j *api.Journal) {
			j.Need = []api.ID{{1}, {2}, {2}}
		}),
		"the first twice":      with(func(j *api.Journal) { j.Need = []api.ID{{}, {}} }),
		"ids fall":             with(func(j *api.Journal) { j.Need = []api.ID{{2}, {1}} }),
		"the last falls":       with(func(j *api.Journal) { j.Need = append(ids(63), api.ID{5}) }),
		"ids fall at the end":  with(func(j *api.Journal) { j.Need = []api.ID{{1, 31: 2}, {1, 31: 1}} }),
		"65 ids that fall too": with(func(j *api.Journal) { j.Need = append(ids(64), api.ID{}) }),
	}
	for _, sum := range []int{-1, maxSum + 1, math.MinInt, math.MaxInt, math.MinInt32, -maxSum, 2 * (maxSum + 1)} {
		list[fmt.Sprint("entries ", sum)] = with(func(j *api.Journal) { j.Entries = sum })
		list[fmt.Sprint("index ", sum)] = with(func(j *api.Journal) { j.Index = sum })
	}
	for _, name := range noDiskNames() {
		list[fmt.Sprintf("bundle %.20q/%d", name, len(name))] = with(func(j *api.Journal) { j.Bundle = name })
	}
	for what, results := range noTables() {
		list["results: "+what] = with(func(j *api.Journal) { j.Results = results })
		list["table: "+what] = with(func(j *api.Journal) { j.Table = results })
	}
	return list
}

func noTables() map[string][]api.Result {
	return map[string][]api.Result{
		"33":              resultsFrom(1, 33, api.ID{}),
		"a code of 256":   {res(1, api.ID{}, 256)},
		"a code below 0":  {res(1, api.ID{}, -1)},
		"the last's code": {res(1, api.ID{}, 0), res(2, api.ID{}, 256)},
		"they fall":       {res(2, api.ID{}, 0), res(1, api.ID{}, 0)},
		"twice":           {res(1, api.ID{}, 0), res(1, api.ID{}, 0)},
		"twice, unlike":   {res(1, api.ID{}, 0), res(1, api.ID{1}, 1)},
	}
}

// wantNoForm asks Decode for the one error, with nothing told.
func wantNoForm(t testing.TB, what, data string) {
	t.Helper()
	j, err := intake.Decode([]byte(data))
	wantFault(t, what, err, "intake.decode", "", api.ErrJournal, api.ID{})
	if !isZero(j) {
		t.Errorf("%s: %v beside an error", what, j)
	}
}

// wantByWords asks Decode for what the words say of these bytes, and Encode for
// the same bytes of what it takes; it tells whether they are a form.
func wantByWords(t testing.TB, what, data string) bool {
	t.Helper()
	want, is := decodeByWords(data)
	if !is {
		wantNoForm(t, what, data)
		return false
	}
	j, err := intake.Decode([]byte(data))
	if err != nil || !likeJournal(j, want) {
		t.Errorf("%s: %v, %v, want %v", what, j, err, want)
	}
	again, err := intake.Encode(j)
	if err != nil || string(again) != data {
		t.Errorf("%s: written again: %x, %v, want %x", what, again, err, data)
	}
	return true
}

func TestP16_1_Encode(t *testing.T) {
	for what, j := range journals() {
		form, err := intake.Encode(j)
		if want := formByWords(j); err != nil || string(form) != want {
			t.Errorf("%s: %x, %v, want %x", what, form, err, want)
		}
	}
}

// Byte by byte, by no hand but this one's.
func TestP16_1_TheForm(t *testing.T) {
	j := api.Journal{Bundle: "ab", Entries: 1, Index: 0x01020304, Results: []api.Result{res(1, api.ID{2}, 3)}, Need: []api.ID{{4}}}
	noughts := times(31, "\x00")
	body := "\x4a" + "\x02ab" + "\x00\x00\x00\x01" + "\x01\x02\x03\x04" + "\x42" + "\x01" + "\x01" + noughts + "\x02" + noughts + "\x03" + "\x01" + "\x04" + noughts + "\x01\x00"
	form, err := intake.Encode(j)
	if err != nil || string(form) != summed(body) {
		t.Errorf("%x, %v, want %x", form, err, summed(body))
	}
	got, err := intake.Decode([]byte(summed(body)))
	if err != nil || !likeJournal(got, j) {
		t.Errorf("%v, %v", got, err)
	}
}

func TestP16_1_NoJournal(t *testing.T) {
	for what, j := range noJournals() {
		form, err := intake.Encode(j)
		wantFault(t, what, err, "intake.encode", "", api.ErrJournal, api.ID{})
		if len(form) != 0 {
			t.Errorf("%s: %d bytes beside an error", what, len(form))
		}
	}
}

// Several things at once are the one error too.
func TestP16_1_AllAtOnce(t *testing.T) {
	j := api.Journal{Bundle: "F", Entries: -1, Index: maxSum + 1, Results: resultsFrom(1, 33, api.ID{}), Need: ids(65), Table: []api.Result{res(1, api.ID{}, 256)}}
	_, err := intake.Encode(j)
	wantFault(t, "all", err, "intake.encode", "", api.ErrJournal, api.ID{})
}

// What Encode would write of no journals, had it not looked: Decode takes none of
// them, though their sums are right.
func TestP16_1_FormsOfNoJournals(t *testing.T) {
	for what, j := range noJournals() {
		if j.Entries < 0 || j.Index < 0 || j.Entries > maxSum || j.Index > maxSum {
			continue // four bytes say none of these
		}
		if slices.ContainsFunc(append(slices.Clone(j.Results), j.Table...), func(r api.Result) bool { return r.Code < 0 || r.Code > 255 }) {
			continue // nor does one byte
		}
		wantNoForm(t, what, formByWords(j))
	}
}

// Each byte that may stand in a name, and each that may not, at its end and alone.
func TestP16_1_EachByteOfAName(t *testing.T) {
	for b := range 256 {
		for _, name := range []string{string([]byte{byte(b)}), string([]byte{'x', byte(b)})} {
			j := with(func(j *api.Journal) { j.Bundle = name })
			_, err := intake.Encode(j)
			if is := err == nil; is != isName.MatchString(name) {
				t.Errorf("%q: %v", name, err)
			}
			if wantByWords(t, name, formByWords(j)) != isName.MatchString(name) {
				t.Errorf("%q: the words say otherwise", name)
			}
		}
	}
}

func TestP16_1_CutAnywhere(t *testing.T) {
	for what, j := range journals() {
		form := formByWords(j)
		for n := range len(form) {
			wantNoForm(t, fmt.Sprint(what, ", ", n, " bytes"), form[:n])
		}
		if len(form) < 300 {
			for n := range len(form) {
				wantNoForm(t, fmt.Sprint(what, " from ", n+1), form[n+1:])
			}
		}
	}
}

// Cut, and the sum of what is left put behind it.
func TestP16_1_CutAndSummed(t *testing.T) {
	for _, what := range []string{"full", "a bundle alone", "no table", "no need"} {
		body := bodyByWords(journals()[what])
		for n := range len(body) {
			wantNoForm(t, fmt.Sprint(what, ", ", n, " bytes"), summed(body[:n]))
		}
	}
}

func TestP16_1_AByteTurned(t *testing.T) {
	for what, j := range journals() {
		form := []byte(formByWords(j))
		turns := []byte{1, 128, 255}
		if len(form) > 1000 {
			turns = turns[:1]
		}
		for at := range form {
			for _, turn := range turns {
				form[at] ^= turn
				wantNoForm(t, fmt.Sprint(what, ", byte ", at), string(form))
				form[at] ^= turn
			}
		}
	}
}

// Each byte turned to each value, and the sum put right: what the words say.
func TestP16_1_AByteTurnedAndSummed(t *testing.T) {
	met := map[bool]int{}
	body := []byte(bodyByWords(full()))
	for at, was := range body {
		for b := range 256 {
			body[at] = byte(b)
			met[wantByWords(t, fmt.Sprint("byte ", at, " is ", b), summed(string(body)))]++
		}
		body[at] = was
	}
	if met[true] < 1000 || met[false] < 1000 {
		t.Errorf("%d forms, %d others", met[true], met[false])
	}
}

func TestP16_1_BytesBehindTheEnd(t *testing.T) {
	for what, j := range journals() {
		form, body := formByWords(j), bodyByWords(j)
		for _, more := range []string{"\x00", "\x01", "\x00\x00\x00\x00", "J", form, times(5000, "\x00")} {
			wantNoForm(t, what, form+more)
			wantNoForm(t, what+", ahead", more+form)
			wantNoForm(t, what+", summed", summed(body+more))
			wantNoForm(t, what+", summed twice", summed(form+more))
		}
		wantNoForm(t, what+", summed twice", summed(form))
	}
}

func TestP16_1_AnotherSum(t *testing.T) {
	body := bodyByWords(full())
	form := formByWords(full())
	for _, sum := range []string{"\x00\x00\x00\x00", "\xff\xff\xff\xff", form[len(form)-1:] + form[len(form)-4:len(form)-1], form[:4]} {
		wantNoForm(t, fmt.Sprintf("%x", sum), body+sum)
	}
	wantNoForm(t, "none", body)
	wantNoForm(t, "of the form but the first byte", body+summed(body[1:])[len(body)-1:])
	wantNoForm(t, "of the sum too", body+summed(form)[len(form):])
}

// Numbers that are not in their one form, with the right sum: of the name, of both
// tables, of the ids.
func TestP16_1_NumbersInAnotherForm(t *testing.T) {
	longer := func(n int) string { return string([]byte{byte(n&127 | 128), byte(n>>7&127 | 128), 0}) }
	j := full()
	name, results, table := j.Bundle, tableForm(j.Results), tableForm(j.Table)
	sums, need := fixed(j.Entries)+fixed(j.Index), ""
	for _, id := range j.Need {
		need += string(id[:])
	}
	built := func(a, b, c, d string) string {
		return summed("J" + a + name + sums + b + results + c + need + d + table)
	}
	a, b, c, d := number(len(name)), number(len(results)), number(len(j.Need)), number(len(table))
	if !wantByWords(t, "as it is", built(a, b, c, d)) {
		t.Error("it is none")
	}
	wantNoForm(t, "the name's", built(longer(len(name)), b, c, d))
	wantNoForm(t, "the results'", built(a, longer(len(results)), c, d))
	wantNoForm(t, "the need's", built(a, b, longer(len(j.Need)), d))
	wantNoForm(t, "the table's", built(a, b, c, longer(len(table))))
	for _, many := range []string{"\xff\xff\xff\xff\x07", "\xff\xff\xff\xff\x08", "\xff\xff\xff\xff\xff\x01", "\x80\x80\x80\x80\x80", "\x41", "\x02", "\x05", "\x00"} {
		wantNoForm(t, fmt.Sprintf("the name's %x", many), built(many, b, c, d))
		wantNoForm(t, fmt.Sprintf("the results' %x", many), built(a, many, c, d))
		wantNoForm(t, fmt.Sprintf("the need's %x", many), built(a, b, many, d))
		wantNoForm(t, fmt.Sprintf("the table's %x", many), built(a, b, c, many))
	}
	j.Results, j.Table = nil, nil
	for _, none := range []string{"\x01\x00", "\x02\x80\x00", "\x00", "\x02\x00\x00"} {
		wantByWords(t, fmt.Sprintf("no results: %x", none), summed("J"+text(name)+sums+none+"\x00"+"\x01\x00"))
		wantByWords(t, fmt.Sprintf("no table: %x", none), summed("J"+text(name)+sums+"\x01\x00"+"\x00"+none))
	}
}

// A first byte that is another, with the right sum.
func TestP16_1_AnotherMark(t *testing.T) {
	body := bodyByWords(full())
	for b := range 256 {
		if is := wantByWords(t, fmt.Sprint("mark ", b), summed(string([]byte{byte(b)})+body[1:])); is != (b == 74) {
			t.Errorf("mark %d: %t", b, is)
		}
	}
}

func TestP16_1_OtherBytes(t *testing.T) {
	r := noise()
	for _, data := range []string{"", "\x00", "J", "J\x00", "crate", times(32, "\xff"), times(100, "\x80"), "J" + times(100, "\xff"), times(1<<20, "J"), tableForm(full().Table)} {
		wantNoForm(t, fmt.Sprintf("%.10q", data), data)
		wantNoForm(t, fmt.Sprintf("%.10q, summed", data), summed(data))
	}
	for range 3000 {
		data := make([]byte, r.IntN(120))
		for i := range data {
			data[i] = byte(r.IntN(256))
		}
		wantByWords(t, "drawn", "J"+string(data))
		wantByWords(t, "drawn", summed("J\x01x"+string(data)))
	}
}

func TestP16_11_ThereAndBack(t *testing.T) {
	for what, j := range journals() {
		form, err := intake.Encode(j)
		if err != nil {
			t.Fatalf("%s: %v", what, err)
		}
		got, err := intake.Decode(form)
		if err != nil || !likeJournal(got, j) {
			t.Errorf("%s: %v, %v, want %v", what, got, err, j)
		}
		if again, err := intake.Encode(got); err != nil || string(again) != string(form) {
			t.Errorf("%s: another form: %x, %v, want %x", what, again, err, form)
		}
		if !wantByWords(t, what, formByWords(j)) {
			t.Errorf("%s: its form is none", what)
		}
	}
}

// drawnJournal is any journal; with a wrong one among them at times.
func drawnJournal(choose choice) api.Journal {
	list := []string{"x", "f.x", "+f", times(112, "z"), "", "F", times(113, "z")}
	j := api.Journal{Bundle: list[choose(4+choose(4))], Entries: choose(1 << 16), Index: maxSum - choose(3)}
	for i := range choose(5) {
		j.Results = append(j.Results, res(byte(i*9+choose(10)), api.ID{byte(choose(3))}, choose(256)))
	}
	for i := range choose(6) {
		j.Need = append(j.Need, api.ID{byte(i*7 + choose(8)), 31: byte(choose(2))})
	}
	for i := range choose(5) {
		j.Table = append(j.Table, res(byte(i*9+choose(10)), api.ID{byte(choose(3))}, choose(257)))
	}
	return j
}

func TestP16_11_Drawn(t *testing.T) {
	r := noise()
	met := map[bool]int{}
	for range 5000 {
		j := drawnJournal(r.IntN)
		form, err := intake.Encode(j)
		is := isJournal(j)
		met[is]++
		if is != (err == nil) {
			t.Fatalf("%v: %v", j, err)
		}
		if !is {
			continue
		}
		if string(form) != formByWords(j) || !wantByWords(t, "drawn", string(form)) {
			t.Fatalf("%v: %x", j, form)
		}
	}
	if met[true] < 500 || met[false] < 500 {
		t.Errorf("%d journals, %d others", met[true], met[false])
	}
}

// Any bytes, also with the right sum behind them: refused, or written again just
// so.
func FuzzAnyBytes(f *testing.F) {
	for _, j := range journals() {
		f.Add([]byte(bodyByWords(j)))
		f.Add([]byte(formByWords(j)))
	}
	f.Fuzz(func(t *testing.T, data []byte) {
		wantByWords(t, "as they are", string(data))
		wantByWords(t, "summed", summed(string(data)))
	})
}
