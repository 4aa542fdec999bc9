package reach_test

import (
	"testing"

	"freight/api"
	"freight/reach"
)

func TestP9_3_WhatLacks(t *testing.T) {
	m := example()
	wantLacks(t, m, roots("a"), nil)
	wantLacks(t, without(m, letter("a")), roots("a"), letters("a"))
	wantLacks(t, without(m, letter("b")), roots("a"), letters("b"))
	wantLacks(t, without(m, letters("cd")...), roots("a"), letters("cd"))
	wantLacks(t, without(m, letters("abcd")...), roots("ba"), letters("ab"))
	wantLacks(t, m, roots("xaxye"), letters("exy"))
}

// No tree, and what lacks beside it and below others.
func TestP9_3_NoTreeBeside(t *testing.T) {
	m := reach.Map{letter("a"): treeOf("b/", "c/", "x"), letter("b"): []byte("bad"), letter("c"): treeOf("y*", "b")}
	wantLacks(t, m, roots("a"), letters("xy"))
	wantLacks(t, m, roots("bz"), letters("z"))
	wantLacks(t, with(m, letter("a"), nil), roots("a"), nil)
}

func TestP9_3_TooDeepBeside(t *testing.T) {
	m := with(chain(7), letter("c"), treeOf("d/", "x"))
	wantLacks(t, m, roots("a"), letters("x"))
	wantLacks(t, without(m, letter("g")), roots("a"), letters("gx"))
	wantLacks(t, with(m, letter("g"), treeOf("y/", "z")), roots("a"), letters("x"))
	wantLacks(t, with(m, letter("g"), treeOf("y/", "z")), roots("ag"), letters("xyz"))
	wantLacks(t, reach.Map{letter("f"): treeOf("f/", "e")}, roots("f"), letters("e"))
}

func TestP9_3_AllAtOnce(t *testing.T) {
	m := chain(7)
	m[letter("a")] = treeOf("b/", "n/", "m")
	m[letter("n")] = []byte("no tree")
	wantNoNeed(t, without(m, letter("g")), roots("a"), api.ErrNoTree, letter("n"))
	wantLacks(t, without(m, letter("g")), roots("a"), letters("gm"))
	wantBlind(t, blind(without(m, letter("g")), api.ErrOff, letter("m")), roots("a"), api.ErrOff, letter("m"))
}

func TestP9_3_NilSource(t *testing.T) {
	wantLacks(t, nil, nil, nil)
	wantLacks(t, nil, roots("cabca"), letters("abc"))
	wantNoNeed(t, nil, roots("cabca"), api.ErrMissing, letter("a"))
	wantLacks(t, nil, rootsOf(api.ID{}), []api.ID{{}})
}

func TestP9_3_Damage(t *testing.T) {
	l := blind(example(), api.ErrDamage, letters("bc")...)
	wantLacks(t, l, roots("a"), letters("bc"))
	wantNoNeed(t, l, roots("a"), api.ErrMissing, letter("b"))
}
