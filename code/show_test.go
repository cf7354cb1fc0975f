package code_test

import (
	"math"
	"slices"
	"strconv"
	"testing"

	"doppel/api"
	"doppel/code"
	"doppel/sample"
)

const plenty = 1_000_000

// unit is a unit without globals: its frames begin at word 1.
func unit(l ...api.Func) api.Unit { return api.Unit{Funcs: l, Top: 1} }

// alone is a unit whose main has four registers and no frame.
func alone(l ...api.Instr) api.Unit { return unit(sample.Func("main", 0, 4, 0, l...)) }

// with is a unit with globals.
func with(u api.Unit, top int, globals ...api.Global) api.Unit {
	u.Top, u.Globals = top, globals
	return u
}

func result(end, code int, output string) api.Result {
	return api.Result{End: end, Code: code, Output: []byte(output)}
}

func exit(code int) api.Result { return result(api.Exit, code, "") }

func trap(code int) api.Result { return result(api.Trap, code, "") }

var nothing = result(api.Spent, 0, "")

func equal(a, b api.Result) bool {
	return a.End == b.End && a.Code == b.Code && string(a.Output) == string(b.Output)
}

func number(n int) string { return strconv.Itoa(n) }

func show(r api.Result) string {
	return []string{"no end", "Exit", "Trap", "Full", "Spent"}[r.End] + " " + number(r.Code) + " " + strconv.Quote(string(r.Output))
}

func want(t *testing.T, what string, got, want api.Result) {
	t.Helper()
	if !equal(got, want) {
		t.Errorf("%s: %.200s; wanted %.200s", what, show(got), show(want))
	}
}

// comes holds what comes of a valid unit, with enough fuel.
func comes(t *testing.T, what string, u api.Unit, input string, r api.Result) {
	t.Helper()
	if !code.Right(u) {
		t.Errorf("%s: not valid", what)
	}
	want(t, what, code.Run(u, []byte(input), plenty), r)
}

// uses holds exactly how much fuel a run uses: with 1 less it is Spent.
func uses(t *testing.T, what string, u api.Unit, fuel int) {
	t.Helper()
	if r := code.Run(u, nil, fuel-1); r.End != api.Spent || r.Code != 0 {
		t.Errorf("%s: with a fuel of %d: %s; wanted Spent 0", what, fuel-1, show(r))
	}
	enough, all := code.Run(u, nil, fuel), code.Run(u, nil, math.MaxInt)
	if enough.End == api.Spent || !equal(enough, all) {
		t.Errorf("%s: with a fuel of %d: %s; with all of it %s", what, fuel, show(enough), show(all))
	}
}

// edges is each number at which something may end, and huge ones.
func edges() []int {
	l := []int{math.MinInt, math.MinInt + 1, -1<<32 - 1, -1 << 32, -1<<31 - 1, -1 << 31, 1<<31 - 1, 1 << 31, 1<<32 - 1, 1 << 32, 1<<32 + 1, math.MaxInt - 1, math.MaxInt}
	for n := -5; n < 30; n++ {
		l = append(l, n)
	}
	for _, n := range []int{64, 255, 1 << 12, 1 << 13, 1 << 16} {
		l = append(l, n-1, n, n+1)
	}
	slices.Sort(l)
	return l
}
