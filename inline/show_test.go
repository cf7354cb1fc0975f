package inline_test

import (
	"slices"
	"strconv"
	"strings"
	"testing"

	"doppel/api"
	"doppel/code"
	"doppel/inline"
	"doppel/sample"
)

func number(n int) string { return strconv.Itoa(n) }

// function has no frame.
func function(name string, params, registers int, text string) api.Func {
	return sample.Func(name, params, registers, 0, sample.Read(text)...)
}

// caller has two parameters, the registers 0 to 3, and a frame of two words.
func caller(text string) api.Func { return sample.Func("caller", 2, 4, 2, sample.Read(text)...) }

// unit is a unit without globals.
func unit(l ...api.Func) api.Unit { return api.Unit{Funcs: l, Top: 1} }

// valid is that, if it may be.
func valid(t *testing.T, what string, u api.Unit) api.Unit {
	t.Helper()
	if !code.Right(u) {
		t.Fatal("not valid: " + what)
	}
	return u
}

func show(u api.Unit) string {
	var l []string
	for _, f := range u.Funcs {
		l = append(l, sample.Show(f))
	}
	return strings.Join(l, "\n")
}

// common is small functions, and some that are not, which callers may call.
func common() []api.Func {
	return []api.Func{
		function("id", 1, 1, "return 0"),
		function("zero", 0, 1, "return 0"),
		function("sum", 2, 3, "add 2 0 1; return 2"),
		function("six", 6, 6, "sub 0 4 5; return 3"),
		function("pick", 2, 2, "branch 0 1 2; return 1; return 0"),
		function("skip", 1, 2, "jump 2; putc 0; not 1 0; return 1"),
		function("early", 1, 2, "return 0; putc 1; return 1"),
		function("kinds", 1, 3, "const 1 7; neg 2 0; sub 2 1 0; copy 0 2; frame 1 0; store 1 2; load 2 1; getc 0; putc 2; branch 0 10 11; jump 11; return 1"),
		function("long", 1, 1, strings.Repeat("putc 0; ", 12)+"return 0"),
		function("endless", 1, 1, "jump 0"),
		function("again", 1, 1, "branch 0 0 1; return 0"),
		function("outer", 1, 1, "call 0 id 0; return 0"),
		sample.Func("framed", 1, 1, 1, sample.Return(0)),
	}
}

// some is those of the common ones that instructions call.
func some(l []api.Instr) []api.Func {
	return slices.DeleteFunc(common(), func(f api.Func) bool {
		return !slices.ContainsFunc(l, func(i api.Instr) bool { return i.Text == f.Name })
	})
}

// same holds what Of tells of a function.
func same(t *testing.T, what string, u api.Unit, k int, want api.Func, count int) {
	t.Helper()
	got, many := inline.Of(u, k)
	if !code.Same(got, want) || many != count {
		t.Errorf("%.3000s: Of for %d is %d, %.3000s; wanted %d, %.3000s", what, k, many, sample.Show(got), count, sample.Show(want))
	}
}

// holds holds what is told of a valid unit: that which the model tells.
func holds(t *testing.T, what string, u api.Unit) (count int) {
	t.Helper()
	all := valid(t, what, u)
	all.Funcs = nil
	for k, f := range u.Funcs {
		if inline.Small(f) != small(f) {
			t.Errorf("%.3000s: Small of %d is %v", what, k, !small(f))
		}
		want, many := expansion(u, k)
		same(t, what, u, k, want, many)
		all.Funcs = append(all.Funcs, want)
		count += many
	}
	if got := inline.All(u); !sameUnits(got, all) || !code.Right(got) {
		t.Errorf("%.3000s: All is %.3000s", what, show(got))
	}
	for _, k := range []int{-1, len(u.Funcs)} {
		same(t, what, u, k, api.Func{}, 0)
	}
	return count
}
