package code_test

import (
	"math"
	"slices"
	"testing"

	"doppel/api"
	"doppel/code"
	"doppel/sample"
)

func holdUnit(t *testing.T, what string, u api.Unit, right bool) {
	t.Helper()
	if code.Right(u) != right {
		t.Errorf("%s: Right is %v", what, !right)
	}
	if r := code.Run(u, []byte("a"), 100); !right && !equal(r, nothing) {
		t.Errorf("%s: a run is %s", what, show(r))
	}
}

// many is so many functions that may be, with names that differ.
func many(n int) []api.Func {
	var l []api.Func
	for k := range n {
		l = append(l, sample.Func("f"+number(k), 0, 1, 0, sample.Return(0)))
	}
	return l
}

// TestRightCount has from no function to too many.
func TestRightCount(t *testing.T) {
	for n, right := range map[int]bool{0: true, 1: true, 2: true, 63: true, 64: true, 65: false, 66: false, 1000: false} {
		holdUnit(t, number(n)+" functions", unit(many(n)...), right)
	}
	holdUnit(t, "no functions, nil", api.Unit{Top: 1}, true)
	holdUnit(t, "no functions, empty", api.Unit{Funcs: []api.Func{}, Globals: []api.Global{}, Top: 1}, true)
	holdUnit(t, "nothing", api.Unit{}, false)
}

// TestRightNames has two functions of one name, wherever they stand.
func TestRightNames(t *testing.T) {
	for a := range 5 {
		for b := range a {
			l := many(5)
			l[a].Name = l[b].Name
			holdUnit(t, "two of one name", unit(l...), false)
			l[a].Name += " "
			holdUnit(t, "names that differ by a blank", unit(l...), true)
		}
	}
	l := many(64)
	l[63].Name = "f0"
	holdUnit(t, "two of one name of 64", unit(l...), false)
	main := sample.Func("main", 0, 1, 0, sample.Const(0, 5), sample.Return(0))
	holdUnit(t, "a main", unit(main), true)
	holdUnit(t, "two that are the same", unit(main, main), false)
	holdUnit(t, "a global with the name of a function", with(unit(main), 2, api.Global{Name: "main", At: 1, Size: 1}), true)
}

// TestRightFunctions has one function that may not be, wherever it stands.
func TestRightFunctions(t *testing.T) {
	for at := range 4 {
		for what, change := range map[string]func(f *api.Func){
			"Name": func(f *api.Func) { f.Name = "" }, "Params": func(f *api.Func) { f.Params = 7 }, "Regs": func(f *api.Func) { f.Regs = 4097 }, "Frame": func(f *api.Func) { f.Frame = -1 }, "Code": func(f *api.Func) { f.Code = nil }, "N": func(f *api.Func) { f.Code[0].N = 1 }, "Kind": func(f *api.Func) { f.Code[0].Kind = api.Putc },
		} {
			l := many(4)
			change(&l[at])
			holdUnit(t, what+" of "+number(at), unit(l...), false)
		}
	}
}

// TestRightCalls has calls of functions that are not there, and with other numbers of arguments.
func TestRightCalls(t *testing.T) {
	for params := range 7 {
		f := sample.Func("f", params, 6, 0, sample.Return(0))
		for n := range 7 {
			i := sample.Call(0, "f", []int{5, 4, 3, 2, 1, 0}[:n]...)
			right := n == params
			caller := sample.Func("main", 0, 6, 0, sample.Return(0), i, sample.Return(0))
			holdUnit(t, number(n)+" arguments for "+number(params), unit(f, caller), right)
			holdUnit(t, number(n)+" arguments for "+number(params)+", behind it", unit(caller, f), right)
			holdUnit(t, number(n)+" arguments for itself", unit(sample.Func("f", params, 6, 0, i, sample.Return(0))), right)
			holdUnit(t, "two calls", unit(f, sample.Func("main", 0, 6, 0, sample.Call(-1, "f", make([]int, params)...), i, sample.Return(0))), right)
		}
	}
	f := sample.Func("f", 0, 1, 0, sample.Return(0))
	for _, name := range []string{"g", "F", "f ", " f", "ff", "main\x00", "\xff"} {
		holdUnit(t, "a call of "+name, unit(f, sample.Func("main", 0, 1, 0, sample.Call(0, name), sample.Return(0))), false)
		holdUnit(t, "a call of "+name+" that is never reached", unit(f, sample.Func("main", 0, 1, 0, sample.Return(0), sample.Call(0, name), sample.Return(0))), false)
		holdUnit(t, "a call of a global", with(unit(sample.Func("main", 0, 1, 0, sample.Call(0, name), sample.Return(0))), 2, api.Global{Name: name, At: 1, Size: 1}), false)
		g := sample.Func(name, 0, 1, 0, sample.Return(0))
		holdUnit(t, "a call of "+name+" that is there", unit(f, g, sample.Func("main", 0, 1, 0, sample.Call(0, name), sample.Return(0))), true)
	}
}

// TestRightGlobals has Top, and the At, Size and Init of globals, at both ends and beyond.
func TestRightGlobals(t *testing.T) {
	u := alone(sample.Return(0))
	global := func(at, size, value int) api.Global { return api.Global{Name: "g", At: at, Size: size, Init: value} }
	for _, top := range edges() {
		right := top >= 1 && top <= 4096
		holdUnit(t, "Top "+number(top), with(u, top), right)
		holdUnit(t, "no function, Top "+number(top), api.Unit{Top: top}, right)
		holdUnit(t, "a global, Top "+number(top), with(u, top, global(1, 5, 0)), right && top >= 6)
		for _, n := range []int{-1, 0, 1, 2, top - 1, top, top + 1, math.MinInt, math.MaxInt} {
			holdUnit(t, "Top "+number(top)+", At "+number(n), with(u, top, global(n, 0, 0)), right && n >= 1 && n <= top)
			holdUnit(t, "Top "+number(top)+", Size "+number(n), with(u, top, global(1, n, 0)), right && n >= 0 && n <= top-1)
		}
	}
	// No sum of these fits an int, or one only by going round.
	for _, at := range edges() {
		for _, size := range edges() {
			right := at >= 1 && at <= 4096 && size >= 0 && size <= 4096 && at+size <= 4096
			holdUnit(t, "At "+number(at)+", Size "+number(size), with(u, 4096, global(at, size, 0)), right)
		}
		holdUnit(t, "Init "+number(at), with(u, 9, global(1, 1, at)), at >= -1<<31 && at < 1<<31)
		holdUnit(t, "Init "+number(at)+" of no words", with(u, 9, global(1, 0, at)), at >= -1<<31 && at < 1<<31)
	}
	for k := range 4 {
		l := slices.Repeat([]api.Global{global(2, 3, 4)}, 4)
		holdUnit(t, "globals of one name, at one word", with(u, 5, l...), true)
		l[k].Size++
		holdUnit(t, "one of several that is too long", with(u, 5, l...), false)
	}
	holdUnit(t, "no name", with(u, 5, api.Global{At: 1, Size: 4}), true)
	var l []api.Global
	for n := range 10_000 {
		l = append(l, global(1+n%4096, 0, n))
	}
	holdUnit(t, "many globals", with(u, 4096, l...), true)
}
