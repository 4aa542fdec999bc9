package reach_test

import (
	"testing"

	"freight/api"
	"freight/reach"
)

func TestExamples_NoneAndNil(t *testing.T) {
	wantNeed(t, example(), nil, nil)
	wantNeed(t, nil, nil, nil)
	wantNoNeed(t, nil, roots("a"), api.ErrMissing, letter("a"))
}

func TestExamples_Need(t *testing.T) {
	wantNeed(t, example(), roots("a"), letters("abcd"))
	wantNeed(t, example(), roots("bb"), letters("bd"))
	wantNoNeed(t, example(), roots("c"), api.ErrNoTree, letter("c"))
	wantNoNeed(t, example(), roots("e"), api.ErrMissing, letter("e"))
}

func TestExamples_Without(t *testing.T) {
	wantNoNeed(t, without(example(), letter("d")), roots("a"), api.ErrMissing, letter("d"))
	two := without(example(), letters("bc")...)
	wantNoNeed(t, two, roots("a"), api.ErrMissing, letter("b"))
	wantLacks(t, two, roots("a"), letters("bc"))
	wantLacks(t, example(), roots("ea"), letters("e"))
}

func TestExamples_NoTree(t *testing.T) {
	m := with(without(example(), letter("c")), letter("b"), []byte("bad"))
	wantNoNeed(t, m, roots("a"), api.ErrNoTree, letter("b"))
	wantLacks(t, m, roots("a"), letters("c"))
}

func TestExamples_Circles(t *testing.T) {
	wantNoNeed(t, reach.Map{letter("f"): treeOf("f/")}, roots("f"), api.ErrDeep, letter("f"))
	wantNeed(t, reach.Map{letter("a"): treeOf("b/"), letter("b"): treeOf("a")}, roots("a"), letters("ab"))
}

func TestExamples_Chains(t *testing.T) {
	wantNeed(t, chain(6), roots("a"), letters("abcdef"))
	wantNoNeed(t, chain(7), roots("a"), api.ErrDeep, letter("g"))
	wantNoNeed(t, without(chain(7), letter("g")), roots("a"), api.ErrDeep, letter("g"))
}

func TestExamples_Off(t *testing.T) {
	wantBlind(t, blind(nil, api.ErrOff, letters("abcdefg")...), roots("a"), api.ErrOff, letter("a"))
	wantBlind(t, blind(example(), api.ErrOff, letter("c")), roots("a"), api.ErrOff, letter("c"))
}
