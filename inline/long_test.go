package inline_test

import (
	"testing"
	"time"

	"doppel/api"
	"doppel/code"
	"doppel/inline"
	"doppel/sample"
)

// inTime holds that something is done within seconds. (It takes much less than one; there is much room for a slow machine.)
func inTime(t *testing.T, what string, do func()) {
	t.Helper()
	begin := time.Now()
	do()
	if took := time.Since(begin); took > 60*time.Second {
		t.Error(what+": it took", took)
	}
}

// calls is a function of so many instructions that calls another one over and over.
func calls(length, registers int, call api.Instr) api.Func {
	return sample.Long(length, registers, sample.Jump(0), func(int) api.Instr { return call })
}

// TestManyCalls has long functions, with so many calls expanded, and what that makes of them.
func TestManyCalls(t *testing.T) {
	for _, c := range []struct {
		what                     string
		f                        api.Func
		count, length, registers int
	}{
		{"a thousand", calls(1001, 1, sample.Call(0, "id", 0)), 1000, 3001, 1001},
		{"all of many", calls(4096, 1, sample.Call(-1, "zero")), 4095, 8191, 4096},
		{"until there is no register", calls(4096, 2, sample.Call(-1, "zero")), 4094, 8190, 4096},
		{"until there is no room", calls(4097, 1, sample.Call(-1, "zero")), 4094, 8191, 4095},
		{"until there is no room for two", calls(4097, 1, sample.Call(0, "zero")), 2047, 8191, 2048},
		{"until there is no room for five", calls(2002, 2, sample.Call(0, "sum", 1, 1)), 1237, 8187, 3713},
		{"no room", calls(8192, 1, sample.Call(-1, "zero")), 0, 8192, 1},
		{"no room for two", calls(8191, 1, sample.Call(-1, "zero")), 0, 8191, 1},
		{"room for one", calls(8190, 1, sample.Call(-1, "zero")), 1, 8191, 2},
		{"no registers", calls(8100, 4096, sample.Call(-1, "id", 4095)), 0, 8100, 4096},
		{"no register for so many", calls(100, 2, sample.Call(-1, "wide")), 0, 100, 2},
		{"no room for so many registers", calls(8000, 1, sample.Call(-1, "wide")), 0, 8000, 1},
		{"so many registers, once", calls(4000, 1, sample.Call(-1, "wide")), 1, 8095, 4096},
		{"not small", calls(8192, 1, sample.Call(-1, "endless", 0)), 0, 8192, 1},
		{"itself", calls(8192, 1, sample.Call(-1, "f")), 0, 8192, 1},
	} {
		u := valid(t, c.what, unit(append(common(), c.f, sample.Func("wide", 0, 4095, 0, sample.Return(4094)))...))
		inTime(t, c.what, func() {
			f, count := inline.Of(u, len(u.Funcs)-2)
			if count != c.count || len(f.Code) != c.length || f.Regs != c.registers || !code.RightFunc(f) {
				t.Errorf("%s: %d are expanded, so there are %d instructions and %d registers", c.what, count, len(f.Code), f.Regs)
			}
			if last := f.Code[len(f.Code)-1]; last != sample.Jump(0) {
				t.Errorf("%s: the last one is %v", c.what, last)
			}
		})
	}
}

// TestManyLongFunctions has units of 64 functions as long as may be.
func TestManyLongFunctions(t *testing.T) {
	for what, f := range map[string]api.Func{
		"all expanded":  calls(4096, 1, sample.Call(-1, "zero")),
		"none expanded": calls(8192, 4096, sample.Call(-1, "zero")),
		"one at a time": calls(8192, 1, sample.Call(-1, "wide")),
	} {
		u := unit(function("zero", 0, 1, "return 0"), sample.Func("wide", 0, 4095, 0, sample.Return(4094)))
		for k := range 62 {
			g := f
			g.Name = sample.Name(k)
			u.Funcs = append(u.Funcs, g)
		}
		valid(t, what, u)
		inTime(t, what, func() {
			all := inline.All(u)
			for k := range all.Funcs {
				if k > 1 && len(all.Funcs[k].Code) != len(all.Funcs[2].Code) {
					t.Error(what + ": not alike")
				}
			}
			valid(t, what, all)
		})
	}
}

// TestTooLong has functions that may not be, as they are too long.
func TestTooLong(t *testing.T) {
	for _, many := range []int{8193, 10_000, 100_000} {
		u := unit(function("zero", 0, 1, "return 0"), calls(many, 1, sample.Call(-1, "zero")))
		inTime(t, number(many), func() {
			same(t, number(many), u, 0, api.Func{}, 0)
			same(t, number(many), u, 1, api.Func{}, 0)
			if inline.Small(u.Funcs[1]) || !sameUnits(inline.All(u), u) {
				t.Error("small, or not the unit itself:", many)
			}
		})
	}
}
