package inline_test

import (
	"slices"
	"testing"

	"doppel/api"
	"doppel/inline"
	"doppel/sample"
)

// calling is a caller, and what Of makes of it, with so many registers in place of four: nothing is told if it stays.
type calling struct {
	what, code, into string
	registers, count int
}

func (c calling) tells(t *testing.T) {
	t.Helper()
	f, want := caller(c.code), caller(c.code)
	if c.into != "" {
		want = sample.Func("caller", 2, c.registers, 2, sample.Read(c.into)...)
	}
	// It is told wherever the function stands.
	for k := range len(common()) + 1 {
		u := valid(t, c.what, unit(slices.Insert(common(), k, f)...))
		same(t, c.what, u, k, want, c.count)
		holds(t, c.what, u)
	}
}

// TestOneCall has calls of each of the small functions, with arguments and a Dst of all sorts.
func TestOneCall(t *testing.T) {
	for _, c := range []calling{
		{"no call", "add 2 0 1; return 2", "", 0, 0},
		{"the example", "call 2 id 3; return 2", "copy 4 3; copy 2 4; jump 3; return 2", 5, 1},
		{"without Dst", "call -1 id 3; return 2", "copy 4 3; jump 2; return 2", 5, 1},
		{"without parameters", "call 2 zero; return 2", "const 4 0; copy 2 4; jump 3; return 2", 5, 1},
		{"without parameters, without Dst", "call -1 zero; return 2", "const 4 0; jump 2; return 2", 5, 1},
		{"a register more than parameters", "call 2 sum 0 1; return 2", "copy 4 0; copy 5 1; const 6 0; add 6 4 5; copy 2 6; jump 6; return 2", 7, 1},
		{"the arguments the other way", "call 2 sum 1 0; return 2", "copy 4 1; copy 5 0; const 6 0; add 6 4 5; copy 2 6; jump 6; return 2", 7, 1},
		{"Dst is the first argument", "call 3 sum 3 1; return 3", "copy 4 3; copy 5 1; const 6 0; add 6 4 5; copy 3 6; jump 6; return 3", 7, 1},
		{"Dst is the second argument", "call 1 sum 0 1; return 1", "copy 4 0; copy 5 1; const 6 0; add 6 4 5; copy 1 6; jump 6; return 1", 7, 1},
		{"Dst is the register 0", "call 0 id 3; return 0", "copy 4 3; copy 0 4; jump 3; return 0", 5, 1},
		{"one register, several arguments", "call 2 sum 0 0; return 2", "copy 4 0; copy 5 0; const 6 0; add 6 4 5; copy 2 6; jump 6; return 2", 7, 1},
		{"six arguments", "call 1 six 0 3 1 1 2 0; return 1", "copy 4 0; copy 5 3; copy 6 1; copy 7 1; copy 8 2; copy 9 0; sub 4 8 9; copy 1 7; jump 9; return 1", 10, 1},
		{"several Returns", "call 2 pick 0 1; return 2", "copy 4 0; copy 5 1; branch 4 3 5; copy 2 5; jump 7; copy 2 4; jump 7; return 2", 6, 1},
		{"several Returns, without Dst", "call -1 pick 0 1; return 2", "copy 4 0; copy 5 1; branch 4 3 4; jump 5; jump 5; return 2", 6, 1},
		{"what is not reached is inserted", "call 2 skip 1; return 2", "copy 4 1; const 5 0; jump 4; putc 4; not 5 4; copy 2 5; jump 7; return 2", 6, 1},
		{"a Return ahead of what is not reached", "call 2 early 1; return 2", "copy 4 1; const 5 0; copy 2 4; jump 7; putc 5; copy 2 5; jump 7; return 2", 6, 1},
		{"a Return ahead of it, without Dst", "call -1 early 1; return 2", "copy 4 1; const 5 0; jump 5; putc 5; jump 5; return 2", 6, 1},
		{"all kinds", "call 3 kinds 1; return 3", "copy 4 1; const 5 0; const 6 0; const 5 7; neg 6 4; sub 6 5 4; copy 4 6; frame 5 2; store 5 6; load 6 5; getc 4; putc 6; branch 4 13 14; jump 14; copy 3 5; jump 16; return 3", 7, 1},
		{"not small: 13 instructions", "call 2 long 3; return 2", "", 0, 0},
		{"not small: a loop", "call 2 again 3; return 2", "", 0, 0},
		{"not small: no Return", "call 2 endless 3; return 2", "", 0, 0},
		{"not small: a Call", "call 2 outer 3; return 2", "", 0, 0},
		{"not small: a frame", "call 2 framed 3; return 2", "", 0, 0},
		{"itself", "call 2 caller 0 1; return 2", "", 0, 0},
		{"itself, without Dst", "call -1 caller 1 1; return 2", "", 0, 0},
		{"not reached", "return 0; call 2 id 3; return 2", "return 0; copy 4 3; copy 2 4; jump 4; return 2", 5, 1},
	} {
		c.tells(t)
	}
}

// TestPlaces has calls at each place, with edges ahead of them, to them and behind them.
func TestPlaces(t *testing.T) {
	for _, c := range []calling{
		{"the first one", "call 2 id 3; putc 2; putc 2; return 2", "copy 4 3; copy 2 4; jump 3; putc 2; putc 2; return 2", 5, 1},
		{"in the midst", "putc 2; call 2 id 3; putc 2; return 2", "putc 2; copy 4 3; copy 2 4; jump 4; putc 2; return 2", 5, 1},
		{"ahead of the last one", "putc 2; putc 2; call 2 id 3; return 2", "putc 2; putc 2; copy 4 3; copy 2 4; jump 5; return 2", 5, 1},
		{"ahead of a Jump to it", "call 2 id 3; jump 0", "copy 4 3; copy 2 4; jump 3; jump 0", 5, 1},
		{"ahead of a Jump that stands ahead of it", "putc 2; call 2 id 3; jump 0", "putc 2; copy 4 3; copy 2 4; jump 4; jump 0", 5, 1},
		{"ahead of a Jump to itself", "call 2 id 3; jump 1", "copy 4 3; copy 2 4; jump 3; jump 3", 5, 1},
		{"ahead of a Branch", "putc 2; call 2 zero; branch 2 1 0", "putc 2; const 4 0; copy 2 4; jump 4; branch 2 1 0", 5, 1},
		{"ahead of a Branch, the other way", "putc 2; call 2 zero; branch 2 2 1", "putc 2; const 4 0; copy 2 4; jump 4; branch 2 4 1", 5, 1},
		{"an edge over it", "jump 2; call 2 id 3; return 2", "jump 4; copy 4 3; copy 2 4; jump 4; return 2", 5, 1},
		{"an edge back over it", "putc 2; call 2 id 3; branch 2 0 3; return 2", "putc 2; copy 4 3; copy 2 4; jump 4; branch 2 0 5; return 2", 5, 1},
		{"edges of all sorts", "branch 0 1 2; call 2 id 3; branch 2 1 4; jump 0; return 2", "branch 0 1 4; copy 4 3; copy 2 4; jump 4; branch 2 1 6; jump 0; return 2", 5, 1},
		{"edges that lead on, ahead of it", "jump 1; branch 3 2 3; jump 3; call 2 id 3; return 2", "jump 1; branch 3 2 3; jump 3; copy 4 3; copy 2 4; jump 6; return 2", 5, 1},
		{"edges that lead on, behind it", "call 2 id 3; jump 2; branch 2 3 4; return 2; return 3", "copy 4 3; copy 2 4; jump 3; jump 4; branch 2 5 6; return 2; return 3", 5, 1},

		{"one behind the other", "call 2 id 3; call 3 id 2; return 3", "copy 4 3; copy 2 4; jump 3; copy 5 2; copy 3 5; jump 6; return 3", 6, 2},
		{"apart, with a loop", "call 2 id 3; putc 2; call 3 id 2; branch 3 2 0; return 3", "copy 4 3; copy 2 4; jump 3; putc 2; copy 5 2; copy 3 5; jump 7; branch 3 4 0; return 3", 6, 2},
		{"two functions", "call 2 zero; call 3 sum 2 0; return 3", "const 4 0; copy 2 4; jump 3; copy 5 2; copy 6 0; const 7 0; add 7 5 6; copy 3 7; jump 9; return 3", 8, 2},
		{"edges between them", "call 2 id 3; branch 2 0 2; call 3 id 2; branch 3 2 0; jump 1", "copy 4 3; copy 2 4; jump 3; branch 2 0 4; copy 5 2; copy 3 5; jump 7; branch 3 4 0; jump 3", 6, 2},
		{"with those that are not small between", "call 2 long 3; call 2 id 3; call -1 endless 2; call -1 zero; call 3 outer 2; return 3", "call 2 long 3; copy 4 3; copy 2 4; jump 4; call -1 endless 2; const 5 0; jump 7; call 3 outer 2; return 3", 6, 2},
		{"with itself", "call 2 caller 0 1; call 3 id 2; call 3 caller 3 3; return 3", "call 2 caller 0 1; copy 4 2; copy 3 4; jump 4; call 3 caller 3 3; return 3", 5, 1},
	} {
		c.tells(t)
	}
}

// TestOtherFields has callers of each sort: what is no instruction and no register stays.
func TestOtherFields(t *testing.T) {
	id := function("id", 1, 1, "return 0")
	zero := function("zero", 0, 1, "frame 0 0; return 0")
	for params := range 7 {
		for _, frame := range []int{0, 1, 4096} {
			f := sample.Func("g", params, params+2, frame, sample.Call(1, "id", params+1), sample.Call(-1, "zero"), sample.Return(1))
			one, two := params+2, params+3
			want := sample.Func("g", params, params+4, frame,
				sample.Copy(one, params+1), sample.Copy(1, one), sample.Jump(3),
				sample.Const(two, 0), sample.Frame(two, frame), sample.Jump(6), sample.Return(1))
			same(t, number(params)+" parameters", valid(t, "g", unit(zero, f, id)), 1, want, 2)
		}
	}
	// A function may have no register.
	none := sample.Func("g", 0, 0, 7, sample.Call(-1, "zero"), sample.Jump(0))
	same(t, "no register", valid(t, "g", unit(none, zero)), 0, sample.Func("g", 0, 1, 7, sample.Const(0, 0), sample.Frame(0, 7), sample.Jump(3), sample.Jump(0)), 1)
}

// TestSmallMain has a main that is small, and is called.
func TestSmallMain(t *testing.T) {
	u := valid(t, "a small main", unit(function("main", 0, 1, "getc 0; return 0"), function("f", 0, 1, "call 0 main; return 0")))
	same(t, "main", u, 0, u.Funcs[0], 0)
	same(t, "f", u, 1, function("f", 0, 2, "const 1 0; getc 1; copy 0 1; jump 4; return 0"), 1)
	u = valid(t, "main calls main", unit(function("main", 0, 1, "call 0 main; return 0")))
	same(t, "main calls main", u, 0, u.Funcs[0], 0)
}

// TestNoFunction has places at which there is none, and units that may not be.
func TestNoFunction(t *testing.T) {
	u := valid(t, "common", unit(common()...))
	for _, k := range append(sample.Huge(), -2, -1, len(u.Funcs), len(u.Funcs)+1, 64) {
		same(t, "no function", u, k, api.Func{}, 0)
	}
	same(t, "no functions", unit(), 0, api.Func{}, 0)
	for what, u := range sample.WrongUnits() {
		for k := -1; k <= len(u.Funcs); k++ {
			same(t, what, u, k, api.Func{}, 0)
		}
		if all := inline.All(u); !sameUnits(all, u) {
			t.Errorf("%s: All is %s", what, show(all))
		}
	}
}
