package code_test

import (
	"math"
	"slices"
	"strings"
	"testing"

	"doppel/api"
	"doppel/code"
	"doppel/sample"
)

// TestEachUsesOne holds that each instruction uses 1 of the fuel, and nothing else uses any.
func TestEachUsesOne(t *testing.T) {
	f := sample.Func("f", 0, 1, 3, sample.Return(0))
	g := sample.Func("g", 6, 6, 0, sample.Return(5))
	for what, c := range map[string]struct {
		u    api.Unit
		fuel int
	}{
		"Return":                 {alone(sample.Return(0)), 1},
		"Const":                  {alone(sample.Const(0, 1), sample.Return(0)), 2},
		"Unary":                  {alone(sample.Unary(api.Zero, 0, 1), sample.Return(0)), 2},
		"Binary":                 {alone(sample.Binary(api.Add, 0, 1, 2), sample.Return(0)), 2},
		"Binary that is a Trap":  {alone(sample.Binary(api.Div, 0, 1, 2), sample.Return(0)), 1},
		"Copy":                   {alone(sample.Copy(0, 1), sample.Return(0)), 2},
		"Frame":                  {alone(sample.Frame(0, 0), sample.Return(0)), 2},
		"Load":                   {alone(sample.Const(0, 1), sample.Load(0, 0), sample.Return(0)), 3},
		"Load that is a Trap":    {alone(sample.Load(0, 1), sample.Return(0)), 1},
		"Store":                  {alone(sample.Const(0, 1), sample.Store(0, 0), sample.Return(0)), 3},
		"Store that is a Trap":   {alone(sample.Store(0, 1), sample.Return(0)), 1},
		"Call":                   {unit(sample.Func("main", 0, 1, 0, sample.Call(0, "f"), sample.Return(0)), f), 3},
		"Call without Dst":       {unit(sample.Func("main", 0, 1, 0, sample.Call(-1, "f"), sample.Return(0)), f), 3},
		"Call with arguments":    {unit(sample.Func("main", 0, 1, 0, sample.Call(0, "g", 0, 0, 0, 0, 0, 0), sample.Return(0)), g), 3},
		"Call that is Full":      {unit(sample.Func("main", 0, 1, 0, sample.Call(0, "f"), sample.Return(0)), sample.Func("f", 0, 1, 4096, sample.Return(0))), 1},
		"Getc":                   {alone(sample.Getc(0), sample.Return(0)), 2},
		"Putc":                   {alone(sample.Putc(0), sample.Return(0)), 2},
		"Jump":                   {alone(sample.Jump(1), sample.Return(0)), 2},
		"Jump that leaves out":   {alone(sample.Jump(3), sample.Return(0), sample.Return(0), sample.Return(0)), 2},
		"Branch to Else":         {alone(sample.Branch(0, 1, 2), sample.Putc(0), sample.Return(0)), 2},
		"Branch to To":           {alone(sample.Const(0, 1), sample.Branch(0, 3, 2), sample.Putc(0), sample.Return(0)), 3},
		"instructions unreached": {alone(sample.Return(0), sample.Const(0, 1), sample.Return(0)), 1},
		"many registers":         {unit(sample.Func("main", 0, 4096, 4000, sample.Return(4095))), 1},
	} {
		uses(t, what, c.u, c.fuel)
	}
	// Loops use what their turns use.
	for _, n := range []int{1, 2, 10, 1000} {
		uses(t, "turns", alone(sample.Const(0, n), sample.Const(1, 1), sample.Binary(api.Sub, 0, 0, 1), sample.Branch(0, 2, 4), sample.Return(0)), 3+2*n)
	}
	// And calls what the functions use.
	f = sample.Func("f", 1, 3, 1, sample.Branch(0, 1, 4), sample.Const(1, 1), sample.Binary(api.Sub, 2, 0, 1), sample.Call(2, "f", 2), sample.Return(2))
	for _, n := range []int{0, 1, 2, 10, 1000} {
		uses(t, "calls", unit(f, sample.Func("main", 0, 1, 0, sample.Const(0, n), sample.Call(0, "f", 0), sample.Return(0))), 3+5*n+2)
	}
}

// TestFuelAtItsEnds has a fuel of 0 and less, and of 10^6 and more.
func TestFuelAtItsEnds(t *testing.T) {
	u := alone(sample.Return(0))
	for _, fuel := range []int{0, -1, -2, -1 << 32, math.MinInt + 1, math.MinInt} {
		want(t, "a fuel of "+number(fuel), code.Run(u, nil, fuel), nothing)
		// Nothing is used ahead of main's frame.
		want(t, "a main that does not fit", code.Run(unit(sample.Func("main", 0, 1, 4096, sample.Return(0))), nil, fuel), result(api.Full, 0, ""))
	}
	want(t, "a fuel of 1", code.Run(u, nil, 1), exit(0))
	counts := func(more int) api.Unit {
		l := append([]api.Instr{sample.Const(0, 499_997), sample.Const(1, 1), sample.Binary(api.Sub, 0, 0, 1), sample.Branch(0, 2, 4)}, slices.Repeat([]api.Instr{sample.Const(2, 5)}, more)...)
		return alone(append(l, sample.Return(2))...)
	}
	// These use 10^6 - 3 and what is more: 10^6 are enough, and no more than that are given.
	for more, r := range []api.Result{exit(0), exit(5), exit(5), exit(5), nothing, nothing, nothing} {
		for _, fuel := range []int{1_000_000, 1_000_001, 1_000_002, 2_000_000, 1 << 32, math.MaxInt} {
			want(t, number(more)+" more, with a fuel of "+number(fuel), code.Run(counts(more), nil, fuel), r)
		}
	}
	want(t, "one less", code.Run(counts(3), nil, 999_999), nothing)
	// Each turn uses 2.
	for fuel, bytes := range map[int]int{0: 0, 1: 1, 2: 1, 3: 2, 4: 2, 999_998: 499_999, 999_999: 500_000, 1_000_000: 500_000, 1_000_001: 500_000, 1_000_002: 500_000, 1 << 40: 500_000} {
		want(t, "putting", code.Run(alone(sample.Putc(0), sample.Jump(0)), nil, fuel), result(api.Spent, 0, strings.Repeat("\x00", bytes)))
	}
}

// TestOutputUntilSpent holds that what went out ahead of the end of the fuel is there, and nothing else.
func TestOutputUntilSpent(t *testing.T) {
	u := unit(sample.Func("main", 0, 1, 0, sample.Const(0, 'A'), sample.Putc(0), sample.Call(0, "f", 0), sample.Putc(0), sample.Return(0)), sample.Func("f", 1, 2, 0, sample.Putc(0), sample.Const(1, 'B'), sample.Return(1)))
	for fuel, output := range []string{"", "", "A", "A", "AA", "AA", "AA", "AAB"} {
		want(t, "a fuel of "+number(fuel), code.Run(u, nil, fuel), result(api.Spent, 0, output))
	}
	want(t, "a fuel of 8", code.Run(u, nil, 8), result(api.Exit, 'B', "AAB"))
}

// TestDeepCalls holds that calls may be nested as deep as the fuel allows, whatever registers they have.
func TestDeepCalls(t *testing.T) {
	for _, regs := range []int{1, 6, 4096} {
		last := regs - 1
		want(t, "main in main", code.Run(unit(sample.Func("main", 0, regs, 0, sample.Call(last, "main"), sample.Return(0))), nil, plenty), nothing)
		want(t, "f in f", code.Run(unit(sample.Func("f", 1, regs, 0, sample.Call(-1, "f", last), sample.Return(0)), sample.Func("main", 0, 1, 0, sample.Call(0, "f", 0), sample.Return(0))), nil, plenty), nothing)
	}
	six := sample.Func("f", 6, 4096, 0, sample.Call(0, "f", 1, 2, 3, 4, 5, 0), sample.Return(0))
	want(t, "six arguments", code.Run(unit(six, sample.Func("main", 0, 6, 0, sample.Const(3, 9), sample.Call(0, "f", 0, 1, 2, 3, 4, 5), sample.Return(0))), nil, plenty), nothing)
	// A function with thousands of registers of its own is called often.
	var l []api.Instr
	for n := range 4000 {
		l = append(l, sample.Const(n, n))
	}
	l = append(l, sample.Const(4001, 300_000), sample.Const(4002, 1), sample.Call(-1, "g"), sample.Binary(api.Sub, 4001, 4001, 4002), sample.Branch(4001, 4002, 4005), sample.Return(3999))
	u := unit(sample.Func("main", 0, 4096, 0, l...), sample.Func("g", 0, 4096, 0, sample.Return(4095)))
	want(t, "called often", code.Run(u, nil, plenty), nothing)
	u.Funcs[0].Code[4000].N = 240_000
	want(t, "called less often", code.Run(u, nil, plenty), exit(3999))
	// What goes back from 166000 calls.
	f := sample.Func("f", 1, 3, 0, sample.Branch(0, 1, 5), sample.Const(1, 1), sample.Binary(api.Sub, 2, 0, 1), sample.Call(2, "f", 2), sample.Binary(api.Add, 0, 1, 2), sample.Return(0))
	comes(t, "back", unit(f, sample.Func("main", 0, 1, 0, sample.Const(0, 166_000), sample.Call(0, "f", 0), sample.Return(0))), "", exit(166_000))
}
