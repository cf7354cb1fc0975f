package live_test

import (
	"fmt"
	"reflect"
	"strconv"
	"testing"

	"doppel/api"
	"doppel/code"
	"doppel/live"
	"doppel/sample"
)

// function has two parameters, the registers 0 to 5, and a frame of three words.
func function(l ...api.Instr) api.Func { return sample.Func("f", 2, 6, 3, l...) }

func number(n int) string { return strconv.Itoa(n) }

func show(f api.Func) string { return sample.Show(f) }

// each reads lists of registers, in which there is one digit a register.
func each(texts ...string) [][]int {
	l := make([][]int, len(texts))
	for k, text := range texts {
		for _, digit := range text {
			l[k] = append(l[k], int(digit-'0'))
		}
	}
	return l
}

func same[T any](t *testing.T, what string, got, want []T) {
	t.Helper()
	if len(got)+len(want) > 0 && !reflect.DeepEqual(got, want) {
		t.Errorf("%.600s is %.300s; wanted %.300s", what, fmt.Sprint(got), fmt.Sprint(want))
	}
}

// all is what the package tells of a function.
type all struct {
	ahead, behind [][]int
	dead          []int
	swept         api.Func
	gone          int
}

func told(f api.Func) all {
	l := all{ahead: live.Ahead(f), behind: live.Behind(f), dead: live.Dead(f)}
	l.swept, l.gone = live.Sweep(f)
	return l
}

// holds holds all that is told of a function, and that what was swept is in order.
func holds(t *testing.T, what string, f api.Func, want all) {
	t.Helper()
	got := told(f)
	same(t, what+": Ahead", sample.Lists(got.ahead), sample.Lists(want.ahead))
	same(t, what+": Behind", sample.Lists(got.behind), sample.Lists(want.behind))
	same(t, what+": Dead", got.dead, want.dead)
	if !code.Same(got.swept, want.swept) || got.gone != want.gone {
		t.Errorf("%.600s: Sweep is %d, %.900s; wanted %d, %.900s", what, got.gone, show(got.swept), want.gone, show(want.swept))
	}
	if code.RightFunc(f) {
		isSwept(t, what, f)
	}
}

// isSwept holds that what was swept may be, has nothing to sweep, and is otherwise as it was.
func isSwept(t *testing.T, what string, f api.Func) {
	t.Helper()
	swept, gone := live.Sweep(f)
	if !code.RightFunc(swept) || len(live.Dead(swept)) > 0 || gone != len(f.Code)-len(swept.Code) {
		t.Errorf("%.600s: Sweep is %d, %.900s", what, gone, show(swept))
	}
	if again, none := live.Sweep(swept); none != 0 || !code.Same(again, swept) {
		t.Errorf("%.600s: swept again: %d, %.900s", what, none, show(again))
	}
	if swept.Name != f.Name || swept.Params != f.Params || swept.Regs != f.Regs || swept.Frame != f.Frame {
		t.Errorf("%.600s: Sweep changes more than the instructions", what)
	}
}
