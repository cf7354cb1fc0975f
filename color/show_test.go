package color_test

import (
	"fmt"
	"reflect"
	"slices"
	"strconv"
	"testing"

	"doppel/api"
	"doppel/code"
	"doppel/color"
	"doppel/sample"
)

func number(n int) string { return strconv.Itoa(n) }

func show(f api.Func) string { return sample.Show(f) }

// function is of a text, and may be.
func function(t *testing.T, what string, params, regs int, text string) api.Func {
	t.Helper()
	f := sample.Func("f", params, regs, 3, sample.Read(text)...)
	if !code.RightFunc(f) {
		t.Fatal("not valid: " + what)
	}
	return f
}

// digits is the registers of a text, a digit each.
func digits(text string) []int {
	var l []int
	for _, digit := range text {
		l = append(l, int(digit-'0'))
	}
	return l
}

// tells is true for the registers of a text.
func tells(regs int, text string) []bool {
	l := make([]bool, regs)
	for _, register := range digits(text) {
		l[register] = true
	}
	return l
}

// upTo is the numbers from one to another one.
func upTo(from, to int) []int {
	var l []int
	for n := from; n <= to; n++ {
		l = append(l, n)
	}
	return l
}

func same[T any](t *testing.T, what string, got, want []T) {
	t.Helper()
	if len(got)+len(want) > 0 && !reflect.DeepEqual(got, want) {
		t.Errorf("%.900s is %.600s; wanted %.600s", what, fmt.Sprint(got), fmt.Sprint(want))
	}
}

// all is what the package tells of a function.
type all struct {
	meet    [][]int
	waits   []bool
	weights []complex128
	places  []int
}

func told(f api.Func) all {
	return all{meet: color.Meet(f), waits: color.Waits(f), weights: color.Weights(f), places: color.Of(f)}
}

// holds holds all that is told of a function, and that its places are fine if it may be.
func holds(t *testing.T, what string, f api.Func, want all) {
	t.Helper()
	got := told(f)
	same(t, what+": Meet", sample.Lists(got.meet), sample.Lists(want.meet))
	same(t, what+": Waits", got.waits, want.waits)
	same(t, what+": Weights", got.weights, want.weights)
	same(t, what+": Of", got.places, want.places)
	if is := color.Fine(f, got.places); is != code.RightFunc(f) {
		t.Errorf("%.900s: Fine of what Of tells is %v", what, is)
	}
}

// isMutual holds that each list is in increasing order, that no register is in its own, and that each is in those that are in its own.
func isMutual(t *testing.T, what string, meet [][]int) {
	t.Helper()
	for a, l := range meet {
		for k, b := range l {
			if a == b || k > 0 && l[k-1] >= b || !slices.Contains(meet[b], a) {
				t.Errorf("%.900s: Meet is %.600s", what, fmt.Sprint(meet))
				return
			}
		}
	}
}
