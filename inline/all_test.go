package inline_test

import (
	"testing"

	"doppel/api"
	"doppel/inline"
	"doppel/sample"
)

// TestAll has units of several functions that call one another.
func TestAll(t *testing.T) {
	id, zero := function("id", 1, 1, "return 0"), function("zero", 0, 1, "return 0")
	globals := []api.Global{{Name: "a", At: 1, Size: 3, Init: -5}, {Name: "a", At: 4, Init: 7}}
	for what, c := range map[string]struct{ u, all api.Unit }{
		"no functions":   {unit(), unit()},
		"none to expand": {unit(id, zero), unit(id, zero)},
		"one to expand":  {unit(function("main", 0, 1, "call 0 zero; return 0"), zero), unit(function("main", 0, 2, "const 1 0; copy 0 1; jump 3; return 0"), zero)},
		"several, in any order": {
			unit(zero, function("f", 1, 1, "call 0 id 0; return 0"), id, function("main", 0, 1, "call 0 f 0; call -1 zero; return 0"), function("g", 0, 1, "call 0 main; return 0")),
			unit(zero, function("f", 1, 2, "copy 1 0; copy 0 1; jump 3; return 0"), id, function("main", 0, 2, "call 0 f 0; const 1 0; jump 3; return 0"), function("g", 0, 1, "call 0 main; return 0")),
		},
		"a small main": {
			unit(function("main", 0, 1, "getc 0; return 0"), function("f", 0, 1, "call 0 main; return 0")),
			unit(function("main", 0, 1, "getc 0; return 0"), function("f", 0, 2, "const 1 0; getc 1; copy 0 1; jump 4; return 0")),
		},
		"each calls the other": {
			unit(function("f", 0, 1, "call 0 g; call 0 zero; return 0"), function("g", 0, 1, "call 0 f; call -1 zero; return 0"), zero),
			unit(function("f", 0, 2, "call 0 g; const 1 0; copy 0 1; jump 4; return 0"), function("g", 0, 2, "call 0 f; const 1 0; jump 3; return 0"), zero),
		},
	} {
		for _, top := range []int{9, api.MaxWords} {
			c.u.Globals, c.all.Globals, c.u.Top, c.all.Top = globals, globals, top, top
			holds(t, what, c.u)
			if got := inline.All(valid(t, what, c.u)); !sameUnits(got, c.all) {
				t.Errorf("%s: All is %s; wanted %s", what, show(got), show(c.all))
			}
		}
	}
}

// chain is a main that calls c, which calls b, which calls a, which is small; the last function is a.
func chain() api.Unit {
	return unit(function("main", 0, 1, "call 0 c 0; return 0"), function("c", 1, 1, "call 0 b 0; return 0"), function("b", 1, 1, "call 0 a 0; return 0"), function("a", 1, 1, "return 0"))
}

// TestAllOfAll holds that a function that became small is expanded by the next All, not by the same one.
func TestAllOfAll(t *testing.T) {
	u := chain()
	b := function("b", 1, 2, "copy 1 0; copy 0 1; jump 3; return 0")
	c := function("c", 1, 3, "copy 1 0; const 2 0; copy 2 1; copy 1 2; jump 5; copy 0 1; jump 7; return 0")
	main := function("main", 0, 4, "copy 1 0; const 2 0; const 3 0; copy 2 1; const 3 0; copy 3 2; copy 2 3; jump 8; copy 1 2; jump 10; copy 0 1; jump 12; return 0")
	for turn, k := range []int{2, 1, 0} {
		u.Funcs[k] = []api.Func{b, c, main}[turn]
		before := chain()
		for range turn + 1 {
			holds(t, "a chain", before)
			before = inline.All(before)
		}
		if !sameUnits(before, u) {
			t.Errorf("All, %d times: %s; wanted %s", turn+1, show(before), show(u))
		}
	}
	// Main has 13 instructions now, so nothing is left to expand.
	if again := inline.All(u); !sameUnits(again, u) {
		t.Error("All, once more:", show(again))
	}
}

// stairs is a unit of little functions, each of which may call those ahead of it.
func stairs(seed int) api.Unit {
	numbers := &sample.Numbers{Seed: uint64(seed)}
	l := []api.Func{little("s0", numbers)}
	for k := range 5 {
		l = append(l, busy(little("s"+number(k+1), numbers), l, numbers))
	}
	return unit(append(l, function("main", 0, 1, "return 0"))...)
}

// TestUntilNothingIsSmall has All of its own result, as often as that changes anything, for pseudo-random units.
func TestUntilNothingIsSmall(t *testing.T) {
	turns := map[int]int{}
	for seed := range 1000 {
		u, many := stairs(seed), 0
		for ; holds(t, show(u), u) > 0 && !t.Failed(); many++ {
			u = inline.All(u)
		}
		if turns[min(many, 3)]++; t.Failed() {
			t.Fatal("seed", seed)
		}
	}
	if turns[0] == 0 || turns[1] < 100 || turns[2] < 100 || turns[3] == 0 {
		t.Error("too few units of a sort:", turns)
	}
}

// TestTwoSteps has functions of which All expands the one, and of which one All more expands the other, in each order.
func TestTwoSteps(t *testing.T) {
	for _, text := range []string{"call 0 a 0; call 0 b 0; return 0", "call 0 b 0; call 0 a 0; return 0"} {
		u := chain()
		u.Funcs[0] = function("main", 0, 1, text)
		holds(t, text, u)
		for _, count := range []int{1, 1, 0} {
			if _, many := inline.Of(u, 0); many != count {
				t.Error(text+": expanded:", many, sample.Show(u.Funcs[0]))
			}
			u = inline.All(u)
		}
	}
}
