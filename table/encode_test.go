package table_test

import (
	"math"
	"slices"
	"strings"
	"testing"

	"freight/api"
	"freight/table"
)

func TestP8_1_HowMany(t *testing.T) {
	for n := range 100 {
		results := numbered(n, 0, 1)
		if n <= 32 {
			wantTable(t, results, writtenByWords(results))
		} else {
			wantNoTable(t, "too many", results)
		}
	}
	for _, n := range []int{128, 256, 256 + 32, 65536} {
		wantNoTable(t, "too many by far", numbered(n, 0, 1))
	}
	wantNoTable(t, "too many by far", make([]api.Result, 100000))
}

func TestP8_1_Bytes(t *testing.T) {
	noughts := strings.Repeat("\x00", 32)
	wantTable(t, nil, []byte("\x00"))
	wantTable(t, []api.Result{{}}, []byte("\x01"+noughts+noughts+"\x00"))
	wantTable(t, []api.Result{{Code: 255}}, []byte("\x01"+noughts+noughts+"\xff"))
	first, last := idOf(0, 'a', 0, 255), idTo(128, 'z')
	wantTable(t, []api.Result{{Action: last, Root: first, Code: 128}, {Action: first, Root: last, Code: 1}},
		[]byte("\x02"+string(last[:])+string(first[:])+"\x80"+string(first[:])+string(last[:])+"\x01"))
	if data := mustEncode(t, numbered(32, 0, 1)); len(data) != 1+32*65 || data[0] != 32 {
		t.Errorf("the greatest table has %d bytes, the first one %d", len(data), data[0])
	}
}

func TestP8_1_Codes(t *testing.T) {
	for code := range 256 {
		wantTable(t, []api.Result{res(1, 9, code)}, writtenByWords([]api.Result{res(1, 9, code)}))
	}
	// Those among them that are a code in their lowest byte.
	for _, code := range []int{-1, -2, -128, -255, -256, -257, 256, 257, 511, 512, 1 << 16, 1 << 31, 1 << 32, 1<<32 + 7, math.MaxInt, math.MinInt, math.MinInt + 7} {
		wantNoTable(t, "alone", []api.Result{res(1, 9, code)})
		for at := range 3 {
			results := []api.Result{res(1, 9, 7), res(2, 9, 0), res(3, 9, 255)}
			results[at].Code = code
			wantNoTable(t, "code", results)
		}
		for at := range 32 {
			wantNoTable(t, "code", changed(numbered(32, 0, 1), at, func(one *api.Result) { one.Code = code }))
		}
	}
}

// pairs of actions, the lesser one first.
func pairs() [][2]api.ID {
	var all [][2]api.ID
	for at := range 32 {
		for _, around := range []byte{0, 1, 127, 128, 255} {
			for _, bytes := range [][2]byte{{0, 1}, {1, 2}, {126, 127}, {127, 128}, {128, 129}, {1, 128}, {127, 255}, {254, 255}, {0, 255}} {
				low, high := full(around), full(around)
				low[at], high[at] = bytes[0], bytes[1]
				all = append(all, [2]api.ID{low, high})
				// What comes behind the byte in which they part says nothing.
				for i := at + 1; i < 32; i++ {
					low[i], high[i] = 255, 0
				}
				all = append(all, [2]api.ID{low, high})
			}
		}
	}
	return append(all, [2]api.ID{{}, idTo(1)}, [2]api.ID{{}, idOf(1)}, [2]api.ID{idTo(255), idOf(1)}, [2]api.ID{{}, full(255)})
}

func TestP8_1_Order(t *testing.T) {
	for _, pair := range pairs() {
		low, high := pair[0], pair[1]
		wantTable(t, plain(low, high), writtenByWords(plain(low, high)))
		wantNoTable(t, "falling", plain(high, low))
		wantNoTable(t, "twice", plain(low, low))
		wantNoTable(t, "twice behind another", plain(low, high, high))
		wantNoTable(t, "twice ahead of another", plain(low, low, high))
		wantNoTable(t, "falling behind rising", plain(low, high, low))
	}
}

func TestP8_1_OrderOfEachPairOfNeighbours(t *testing.T) {
	for _, n := range []int{2, 3, 13, 32} {
		results := numbered(n, 0x7ff0, 1)
		wantTable(t, results, writtenByWords(results))
		for at := range n - 1 {
			wantNoTable(t, "swapped", swapped(results, at))
			wantNoTable(t, "twice", changed(results, at, func(one *api.Result) { *one = results[at+1] }))
			wantNoTable(t, "unlike ones of an action", changed(results, at, func(one *api.Result) { one.Action = results[at+1].Action }))
		}
		turned := slices.Clone(results)
		slices.Reverse(turned)
		wantNoTable(t, "turned round", turned)
	}
}

func TestP8_1_LikeActionsOfUnlikeResults(t *testing.T) {
	for _, other := range []api.Result{res(1, 9, 7), res(1, 10, 7), res(1, 8, 7), res(1, 9, 8), res(1, 9, 6)} {
		wantNoTable(t, "two", []api.Result{res(1, 9, 7), other})
		wantNoTable(t, "two, behind others", []api.Result{{}, res(0, 1, 1), res(1, 9, 7), other})
		wantNoTable(t, "apart", []api.Result{res(1, 9, 7), res(2, 9, 7), other})
	}
}

// Neither roots nor codes have a say in the order.
func TestP8_1_OnlyActionsAreInOrder(t *testing.T) {
	falling := []api.Result{res(1, 255, 255), res(2, 128, 128), res(3, 128, 128), res(4, 0, 0)}
	wantTable(t, falling, writtenByWords(falling))
	like := []api.Result{res(1, 9, 7), res(2, 9, 7), res(3, 9, 7)}
	wantTable(t, like, writtenByWords(like))
	wantNoTable(t, "rising roots and codes", []api.Result{res(2, 1, 1), res(1, 2, 2)})
}

func TestP8_1_AnyActionAndRoot(t *testing.T) {
	for b := range 256 {
		one := []api.Result{{Action: full(byte(b)), Root: full(byte(255 - b)), Code: b}}
		wantTable(t, one, writtenByWords(one))
	}
	r := noise()
	for range 1000 {
		one := []api.Result{{Action: noiseID(r), Root: noiseID(r), Code: r.IntN(256)}}
		wantTable(t, one, writtenByWords(one))
	}
}

func TestP8_1_AnyTable(t *testing.T) {
	r := noise()
	for range 3000 {
		results := noiseTable(r)
		wantTable(t, results, writtenByWords(results))
	}
}

func TestP8_1_NoTables(t *testing.T) {
	for what, results := range noTables() {
		wantNoTable(t, what, results)
	}
}

// Lists of any results, and tables of which one thing was changed.
func TestP8_1_NearlyTables(t *testing.T) {
	r := noise()
	no := 0
	for range 10000 {
		results := append(noiseTable(r), api.Result{Action: full(255), Code: 1})
		at := r.IntN(len(results))
		switch r.IntN(4) {
		case 0:
			results[at].Code = r.IntN(260) - 2
		case 1:
			results[at].Action[r.IntN(32)] = byte(r.Uint32())
		case 2:
			results[at].Action = results[r.IntN(len(results))].Action
		case 3:
			for i := range results {
				results[i] = noiseResult(r)
			}
		}
		if validByWords(results) {
			wantTable(t, results, writtenByWords(results))
		} else {
			wantNoTable(t, "nearly", results)
			no++
		}
	}
	if no < 1000 || no > 9000 {
		t.Errorf("%d of 10000 were no tables", no)
	}
}

func TestW5_NilAndEmptyAreTheSame(t *testing.T) {
	one := res(1, 9, 7)
	for _, none := range [][]api.Result{nil, {}, make([]api.Result, 0, 5)} {
		wantTable(t, none, []byte{0})
		wantNotFound(t, none, api.ID{})
		wantWith(t, none, one, []api.Result{one}, api.OK)
		for _, policy := range []int{api.Keep, api.Take, api.Fail} {
			wantJoin(t, none, []api.Result{one}, policy, []api.Result{one}, nil, api.OK)
			wantJoin(t, []api.Result{one}, none, policy, []api.Result{one}, nil, api.OK)
			wantJoin(t, none, nil, policy, nil, nil, api.OK)
			wantJoin(t, []api.Result{}, none, policy, nil, nil, api.OK)
		}
	}
	for _, none := range [][]byte{nil, {}, make([]byte, 0, 5)} {
		wantNotParsed(t, "none", none)
	}
}

// Each call on its own, whatever was refused ahead of it.
func TestW2_NothingIsKept(t *testing.T) {
	great := numbered(32, 0, 2)
	for what, results := range noTables() {
		wantNoTable(t, what, results)
		wantTable(t, great, writtenByWords(great))
		wantNotParsed(t, what, writtenByWords(great)[1:])
		wantParsed(t, writtenByWords(great), great)
		wantWith(t, great, res(0, 1, 1000), nil, api.ErrTable)
		wantWith(t, great, great[3], great, api.OK)
		wantJoin(t, great, []api.Result{res(0, 1, 1)}, api.Fail, nil, []api.ID{{}}, api.ErrConflict)
		wantJoin(t, great, great, api.Fail, great, nil, api.OK)
	}
}

func TestW2_ManyAtOnce(t *testing.T) {
	answers := make(chan bool)
	ours, theirs := numbered(16, 0, 2), numbered(20, 0, 1)
	want, wantConflicts, _ := joinByWords(ours, theirs, api.Take)
	for range 8 {
		go func() {
			right := true
			for range 200 {
				joined, conflicts, errno := table.Join(ours, theirs, api.Take)
				right = right && errno == api.OK && slices.Equal(joined, want) && slices.Equal(conflicts, wantConflicts)
				read, errno := table.Parse(writtenByWords(want))
				right = right && errno == api.OK && slices.Equal(read, want)
				_, found := table.Find(ours, ours[3].Action)
				right = right && found && table.Valid(ours)
			}
			answers <- right
		}()
	}
	for range 8 {
		if !<-answers {
			t.Error("another answer, with many calls at once")
		}
	}
}
