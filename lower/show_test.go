package lower_test

import (
	"math"
	"strconv"
	"testing"

	"doppel/api"
	"doppel/code"
	"doppel/core"
	"doppel/eval"
	"doppel/lower"
)

// most is as much fuel as a run can have.
const most = 1_000_000

func number(n int) string { return strconv.Itoa(n) }

// both is a source as a program and as a unit.
type both struct {
	source  string
	program core.Program
	unit    api.Unit
}

// made is a source, which must be without errors, in both ways.
func made(t *testing.T, source string) both {
	t.Helper()
	p, at, errno := core.Read(source)
	if errno != api.OK {
		t.Fatalf("%s: error %d at %d", source, errno, at)
	}
	u, at, errno := lower.Read(source)
	if errno != api.OK || at != 0 {
		t.Fatalf("%s: error %d at %d", source, errno, at)
	}
	return both{source, p, u}
}

// inCore and inCode are what comes of it.
func (b both) inCore(input string, fuel int) api.Result {
	return eval.Run(b.program, []byte(input), fuel)
}

func (b both) inCode(input string, fuel int) api.Result {
	return code.Run(b.unit, []byte(input), fuel)
}

func result(end, code int, output string) api.Result {
	return api.Result{End: end, Code: code, Output: []byte(output)}
}

func exit(code int) api.Result { return result(api.Exit, code, "") }

func trap(code int, output string) api.Result { return result(api.Trap, code, output) }

func show(r api.Result) string {
	return []string{"no end", "Exit", "Trap", "Full", "Spent"}[r.End] + " " + number(r.Code) + " " + strconv.Quote(string(r.Output))
}

// comes holds what comes of a source, in both ways.
func comes(t *testing.T, source, input string, r api.Result) {
	t.Helper()
	b := made(t, source)
	if got := b.inCode(input, most); show(got) != show(r) {
		t.Errorf("%s: %.200s; wanted %.200s", source, show(got), show(r))
	}
	if got := b.inCore(input, most); show(got) != show(r) {
		t.Errorf("%s: in core %.200s; wanted %.200s", source, show(got), show(r))
	}
}

// gives holds what main returns.
func gives(t *testing.T, sources map[string]int) {
	t.Helper()
	for source, n := range sources {
		comes(t, source, "", exit(n))
	}
}

// puts holds what main puts out ahead of its end.
func puts(t *testing.T, sources map[string]string) {
	t.Helper()
	for source, output := range sources {
		comes(t, source, "", result(api.Exit, 0, output))
	}
}

// valid holds that code may be, and has what the program has, in its order.
func (b both) valid(t *testing.T) {
	t.Helper()
	p, u := b.program, b.unit
	if !code.Right(u) || u.Top != p.Top || len(u.Funcs) != len(p.Funcs) || len(u.Globals) != len(p.Globals) {
		t.Fatalf("%s: not the unit of its program: %v", b.source, u)
	}
	for k, g := range u.Globals {
		if g != p.Globals[k] {
			t.Errorf("%s: the global %v; wanted %v", b.source, g, p.Globals[k])
		}
	}
	for k, f := range u.Funcs {
		of := p.Funcs[k]
		if f.Name != of.Name || f.Params != of.Params || f.Frame != of.Frame || f.Regs <= of.Regs {
			t.Errorf("%s: %s has %d, %d, %d; wanted those of %v", b.source, f.Name, f.Params, f.Frame, f.Regs, of)
		}
		if g, errno := lower.Func(p, k); errno != api.OK || !code.RightFunc(g) || !code.Same(f, g) {
			t.Errorf("%s: Func of %s is another one, or none: error %d", b.source, f.Name, errno)
		}
	}
	if v, errno := lower.Of(p); errno != api.OK || !alike(u, v) {
		t.Errorf("%s: Of is another one than Read, or none: error %d", b.source, errno)
	}
}

// alike tells whether units are the same.
func alike(a, b api.Unit) bool {
	same := a.Top == b.Top && len(a.Globals) == len(b.Globals) && len(a.Funcs) == len(b.Funcs)
	for k := range a.Globals {
		same = same && a.Globals[k] == b.Globals[k]
	}
	for k := range a.Funcs {
		same = same && code.Same(a.Funcs[k], b.Funcs[k])
	}
	return same
}

// huge are numbers that no list reaches.
func huge() []int {
	return []int{math.MinInt, math.MinInt + 1, -1 << 32, -1 << 31, -2, -1, 1 << 13, 1 << 31, 1 << 32, math.MaxInt - 1, math.MaxInt}
}
