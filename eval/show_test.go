package eval_test

import (
	"math"
	"strconv"
	"testing"

	"doppel/api"
	"doppel/core"
	"doppel/eval"
)

const plenty = 1_000_000

func number(n int) string { return strconv.Itoa(n) }

func read(t *testing.T, source string) core.Program {
	t.Helper()
	p, at, errno := core.Read(source)
	if errno != api.OK {
		t.Fatalf("%s: error %d at %d", source, errno, at)
	}
	return p
}

// behaves is what comes of a source, which must be without errors.
func behaves(t *testing.T, source, input string, fuel int) api.Result {
	t.Helper()
	r, errno := eval.Behaves(source, []byte(input), fuel)
	if errno != api.OK {
		t.Fatalf("%s: error %d", source, errno)
	}
	return r
}

func result(end, code int, output string) api.Result {
	return api.Result{End: end, Code: code, Output: []byte(output)}
}

func exit(code int) api.Result { return result(api.Exit, code, "") }

// equal compares results without the package that is tested.
func equal(a, b api.Result) bool {
	return a.End == b.End && a.Code == b.Code && string(a.Output) == string(b.Output)
}

func show(r api.Result) string {
	ends := []string{"no end", "Exit", "Trap", "Full", "Spent"}
	return ends[r.End] + " " + strconv.Itoa(r.Code) + " " + strconv.Quote(string(r.Output))
}

func want(t *testing.T, source string, got, want api.Result) {
	t.Helper()
	if !equal(got, want) {
		t.Errorf("%s: %s; wanted %s", source, show(got), show(want))
	}
}

// comes holds what comes of a source, with enough fuel.
func comes(t *testing.T, source, input string, r api.Result) {
	t.Helper()
	want(t, source, behaves(t, source, input, plenty), r)
}

// gives holds what main returns.
func gives(t *testing.T, sources map[string]int) {
	t.Helper()
	for source, code := range sources {
		comes(t, source, "", exit(code))
	}
}

// uses holds exactly how much fuel a run uses: with 1 less it is Spent.
func uses(t *testing.T, source string, p core.Program, fuel int) {
	t.Helper()
	if r := eval.Run(p, nil, fuel-1); r.End != api.Spent || r.Code != 0 {
		t.Errorf("%s: with a fuel of %d: %s; wanted Spent 0", source, fuel-1, show(r))
	}
	enough, all := eval.Run(p, nil, fuel), eval.Run(p, nil, math.MaxInt)
	if enough.End == api.Spent || !equal(enough, all) {
		t.Errorf("%s: with a fuel of %d: %s; with all of it %s", source, fuel, show(enough), show(all))
	}
}
