package inline_test

import (
	"maps"
	"slices"
	"testing"

	"doppel/api"
	"doppel/code"
	"doppel/inline"
	"doppel/sample"
)

// roomy is a unit with room behind each of its lists, all of which has a mark.
func roomy(u api.Unit) api.Unit {
	funcs := make([]api.Func, len(u.Funcs), len(u.Funcs)+3)
	for k, f := range u.Funcs {
		funcs[k] = sample.Roomy(f)
	}
	for k := range 3 {
		funcs[:cap(funcs)][len(funcs)+k] = api.Func{Name: "mark"}
	}
	globals := make([]api.Global, len(u.Globals)+3)
	sample.Spoil(globals, api.Global{Name: "mark"})
	copy(globals, u.Globals)
	u.Funcs, u.Globals = funcs, globals[:len(u.Globals)]
	return u
}

// alike tells whether units are the same, also in the room behind their lists.
func alike(a, b api.Unit) bool {
	return a.Top == b.Top && len(a.Funcs) == len(b.Funcs) && slices.EqualFunc(sample.Whole(a.Funcs), sample.Whole(b.Funcs), sample.Alike) && slices.Equal(a.Globals, b.Globals) && slices.Equal(sample.Whole(a.Globals), sample.Whole(b.Globals))
}

// spoil changes all lists of a unit, one after the other, and holds that those that are left are as they were.
func spoil(t *testing.T, what string, got api.Unit) {
	t.Helper()
	want := api.Unit{Globals: slices.Clone(got.Globals)}
	for _, f := range got.Funcs {
		want.Funcs = append(want.Funcs, code.Clone(f))
	}
	sample.Spoil(got.Globals, api.Global{Name: "spoilt"})
	for k, f := range got.Funcs {
		if !code.Same(f, want.Funcs[k]) {
			t.Fatal("lists have memory in common: " + what)
		}
		sample.Spoil(f.Code, api.Instr{Text: "spoilt"})
	}
	sample.Spoil(got.Funcs, api.Func{Name: "spoilt"})
}

// units is units of all sorts, also those that may not be.
func units() []api.Unit {
	l := []api.Unit{{}, {Top: 1}, chain(), unit(common()...)}
	for seed := range 200 {
		l = append(l, mixed(seed))
	}
	wrong := sample.WrongUnits()
	for _, what := range slices.Sorted(maps.Keys(wrong)) {
		l = append(l, wrong[what])
	}
	return l
}

// TestMemory holds that no argument is changed, and that what is told is in memory of its own.
func TestMemory(t *testing.T) {
	for _, plain := range units() {
		u, again := roomy(plain), roomy(plain)
		what := show(plain)
		var before api.Unit
		for k := range u.Funcs {
			f, _ := inline.Of(u, k)
			other, _ := inline.Of(u, k)
			before.Funcs = append(before.Funcs, code.Clone(f))
			spoil(t, what, api.Unit{Funcs: []api.Func{f}})
			if !code.Same(other, before.Funcs[k]) || inline.Small(u.Funcs[k]) != small(plain.Funcs[k]) {
				t.Fatal("results have memory in common: " + what)
			}
		}
		if !alike(u, again) {
			t.Fatal("the unit is changed by Of, or by what becomes of its results: " + what)
		}
		// A unit that may not be is returned itself.
		if code.Right(plain) {
			all, other := inline.All(u), inline.All(u)
			if before.Globals, before.Top = plain.Globals, plain.Top; !sameUnits(all, before) {
				t.Fatal("All is " + show(all))
			}
			spoil(t, what, all)
			if !sameUnits(other, before) {
				t.Fatal("results have memory in common: " + what)
			}
		} else if all := inline.All(u); !alike(all, u) {
			t.Fatal("All of a unit that may not be: " + what)
		}
		if !alike(u, again) {
			t.Fatal("the unit is changed by All, or by what becomes of its result: " + what)
		}
	}
}

// TestNothingIsKept holds that what is told hangs on the argument alone, and that the name and the memory of a function make no difference.
func TestNothingIsKept(t *testing.T) {
	u := mixed(7)
	first := inline.All(u)
	for seed := range 50 {
		inline.All(mixed(seed))
		if again := inline.All(u); !sameUnits(again, first) {
			t.Fatal("not the same twice:", show(again))
		}
	}
	// The functions in another order, each expanded as before.
	turned := u
	turned.Funcs = slices.Clone(u.Funcs)
	slices.Reverse(turned.Funcs)
	all := inline.All(turned)
	slices.Reverse(all.Funcs)
	if !sameUnits(all, first) {
		t.Error("in another order:", show(all))
	}
}
