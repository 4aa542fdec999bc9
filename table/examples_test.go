package table_test

import (
	"strings"
	"testing"

	"freight/api"
)

// The actions and roots of the chapter's examples.
var (
	actionA, actionB, actionC = idOf(1), idOf(2), idOf(3)
	rootR, rootS              = idOf(9), idOf(8)
)

func TestExamples_Encode(t *testing.T) {
	noughts := strings.Repeat("00", 31)
	wantTable(t, nil, unhex(t, "00"))
	wantTable(t, []api.Result{{Action: actionA, Root: rootR, Code: 7}}, unhex(t, "01 01"+noughts+"09"+noughts+"07"))
	wantNoTable(t, "falling", []api.Result{{Action: actionB, Root: rootR}, {Action: actionA, Root: rootR}})
	wantNoTable(t, "code", []api.Result{{Action: actionA, Root: rootR, Code: 256}})
	wantNoTable(t, "twice", []api.Result{{Action: actionA, Root: rootR}, {Action: actionA, Root: rootS}})
}

func TestExamples_Parse(t *testing.T) {
	wantParsed(t, unhex(t, "00"), nil)
	for _, text := range []string{"", "00 00", "80 00"} {
		wantNotParsed(t, text, unhex(t, text))
	}
}

func TestExamples_With(t *testing.T) {
	one := api.Result{Action: actionA, Root: rootS, Code: 1}
	wantWith(t, []api.Result{{Action: actionA, Root: rootR, Code: 7}}, one, []api.Result{one}, api.OK)
	other := api.Result{Action: actionB, Root: rootR, Code: 7}
	wantWith(t, []api.Result{other}, one, []api.Result{one, other}, api.OK)
}

func TestExamples_Join(t *testing.T) {
	ours := []api.Result{{Action: actionA, Root: rootR, Code: 7}, {Action: actionB, Root: rootR}}
	theirs := []api.Result{{Action: actionA, Root: rootS, Code: 7}, {Action: actionC, Root: rootR}}
	wantJoin(t, ours, theirs, api.Keep, []api.Result{ours[0], ours[1], theirs[1]}, []api.ID{actionA}, api.OK)
	wantJoin(t, ours, theirs, api.Take, []api.Result{theirs[0], ours[1], theirs[1]}, []api.ID{actionA}, api.OK)
	wantJoin(t, ours, theirs, api.Fail, nil, []api.ID{actionA}, api.ErrConflict)
	wantJoin(t, ours, theirs, 4, nil, nil, api.ErrArg)
}

func TestExamples_Find(t *testing.T) {
	results := []api.Result{{Action: actionB, Root: rootR, Code: 1}, {Action: actionA, Root: rootR, Code: 2}, {Action: actionA, Root: rootR, Code: 3}}
	wantFound(t, results, actionA, api.Result{Action: actionA, Root: rootR, Code: 2})
}
