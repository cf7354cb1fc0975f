package code_test

import (
	"math"
	"slices"
	"strings"
	"testing"

	"doppel/api"
	"doppel/code"
)

// TestEachUsesOne holds that each instruction uses 1 of the fuel, and nothing else uses any.
func TestEachUsesOne(t *testing.T) {
	f := function("f", 0, 1, 3, give(0))
	g := function("g", 6, 6, 0, give(5))
	for what, c := range map[string]struct {
		u    api.Unit
		fuel int
	}{
		"Return":                 {alone(give(0)), 1},
		"Const":                  {alone(constant(0, 1), give(0)), 2},
		"Unary":                  {alone(unary(api.Zero, 0, 1), give(0)), 2},
		"Binary":                 {alone(binary(api.Add, 0, 1, 2), give(0)), 2},
		"Binary that is a Trap":  {alone(binary(api.Div, 0, 1, 2), give(0)), 1},
		"Copy":                   {alone(copied(0, 1), give(0)), 2},
		"Frame":                  {alone(frame(0, 0), give(0)), 2},
		"Load":                   {alone(constant(0, 1), load(0, 0), give(0)), 3},
		"Load that is a Trap":    {alone(load(0, 1), give(0)), 1},
		"Store":                  {alone(constant(0, 1), store(0, 0), give(0)), 3},
		"Store that is a Trap":   {alone(store(0, 1), give(0)), 1},
		"Call":                   {unit(function("main", 0, 1, 0, call(0, "f"), give(0)), f), 3},
		"Call without Dst":       {unit(function("main", 0, 1, 0, call(-1, "f"), give(0)), f), 3},
		"Call with arguments":    {unit(function("main", 0, 1, 0, call(0, "g", 0, 0, 0, 0, 0, 0), give(0)), g), 3},
		"Call that is Full":      {unit(function("main", 0, 1, 0, call(0, "f"), give(0)), function("f", 0, 1, 4096, give(0))), 1},
		"Getc":                   {alone(getc(0), give(0)), 2},
		"Putc":                   {alone(putc(0), give(0)), 2},
		"Jump":                   {alone(jump(1), give(0)), 2},
		"Jump that leaves out":   {alone(jump(3), give(0), give(0), give(0)), 2},
		"Branch to Else":         {alone(branch(0, 1, 2), putc(0), give(0)), 2},
		"Branch to To":           {alone(constant(0, 1), branch(0, 3, 2), putc(0), give(0)), 3},
		"instructions unreached": {alone(give(0), constant(0, 1), give(0)), 1},
		"many registers":         {unit(function("main", 0, 4096, 4000, give(4095))), 1},
	} {
		uses(t, what, c.u, c.fuel)
	}
	// Loops use what their turns use.
	for _, n := range []int{1, 2, 10, 1000} {
		uses(t, "turns", alone(constant(0, n), constant(1, 1), binary(api.Sub, 0, 0, 1), branch(0, 2, 4), give(0)), 3+2*n)
	}
	// And calls what the functions use.
	f = function("f", 1, 3, 1, branch(0, 1, 4), constant(1, 1), binary(api.Sub, 2, 0, 1), call(2, "f", 2), give(2))
	for _, n := range []int{0, 1, 2, 10, 1000} {
		uses(t, "calls", unit(f, function("main", 0, 1, 0, constant(0, n), call(0, "f", 0), give(0))), 3+5*n+2)
	}
}

// TestFuelAtItsEnds has a fuel of 0 and less, and of 10^6 and more.
func TestFuelAtItsEnds(t *testing.T) {
	u := alone(give(0))
	for _, fuel := range []int{0, -1, -2, -1 << 32, math.MinInt + 1, math.MinInt} {
		want(t, "a fuel of "+number(fuel), code.Run(u, nil, fuel), nothing)
		// Nothing is used ahead of main's frame.
		want(t, "a main that does not fit", code.Run(unit(function("main", 0, 1, 4096, give(0))), nil, fuel), result(api.Full, 0, ""))
	}
	want(t, "a fuel of 1", code.Run(u, nil, 1), exit(0))
	counts := func(more int) api.Unit {
		l := append([]api.Instr{constant(0, 499_997), constant(1, 1), binary(api.Sub, 0, 0, 1), branch(0, 2, 4)}, slices.Repeat([]api.Instr{constant(2, 5)}, more)...)
		return alone(append(l, give(2))...)
	}
	// These use 10^6 - 3 and what is more: 10^6 are enough, and no more than that are given.
	for more, r := range []api.Result{exit(0), exit(5), exit(5), exit(5), nothing, nothing, nothing} {
		for _, fuel := range []int{1_000_000, 1_000_001, 1_000_002, 2_000_000, 1 << 32, math.MaxInt} {
			want(t, number(more)+" more, with a fuel of "+number(fuel), code.Run(counts(more), nil, fuel), r)
		}
	}
	want(t, "one less", code.Run(counts(3), nil, 999_999), nothing)
	// Each turn uses 2.
	for fuel, bytes := range map[int]int{0: 0, 1: 1, 2: 1, 3: 2, 4: 2, 999_998: 499_999, 999_999: 500_000, 1_000_000: 500_000, 1_000_001: 500_000, 1_000_002: 500_000, 1 << 40: 500_000} {
		want(t, "putting", code.Run(alone(putc(0), jump(0)), nil, fuel), result(api.Spent, 0, strings.Repeat("\x00", bytes)))
	}
}

// TestOutputUntilSpent holds that what went out ahead of the end of the fuel is there, and nothing else.
func TestOutputUntilSpent(t *testing.T) {
	u := unit(function("main", 0, 1, 0, constant(0, 'A'), putc(0), call(0, "f", 0), putc(0), give(0)), function("f", 1, 2, 0, putc(0), constant(1, 'B'), give(1)))
	for fuel, output := range []string{"", "", "A", "A", "AA", "AA", "AA", "AAB"} {
		want(t, "a fuel of "+number(fuel), code.Run(u, nil, fuel), result(api.Spent, 0, output))
	}
	want(t, "a fuel of 8", code.Run(u, nil, 8), result(api.Exit, 'B', "AAB"))
}

// TestDeepCalls holds that calls may be nested as deep as the fuel allows, whatever registers they have.
func TestDeepCalls(t *testing.T) {
	for _, regs := range []int{1, 6, 4096} {
		last := regs - 1
		want(t, "main in main", code.Run(unit(function("main", 0, regs, 0, call(last, "main"), give(0))), nil, plenty), nothing)
		want(t, "f in f", code.Run(unit(function("f", 1, regs, 0, call(-1, "f", last), give(0)), function("main", 0, 1, 0, call(0, "f", 0), give(0))), nil, plenty), nothing)
	}
	six := function("f", 6, 4096, 0, call(0, "f", 1, 2, 3, 4, 5, 0), give(0))
	want(t, "six arguments", code.Run(unit(six, function("main", 0, 6, 0, constant(3, 9), call(0, "f", 0, 1, 2, 3, 4, 5), give(0))), nil, plenty), nothing)
	// A function with thousands of registers of its own is called often.
	var l []api.Instr
	for n := range 4000 {
		l = append(l, constant(n, n))
	}
	l = append(l, constant(4001, 300_000), constant(4002, 1), call(-1, "g"), binary(api.Sub, 4001, 4001, 4002), branch(4001, 4002, 4005), give(3999))
	u := unit(function("main", 0, 4096, 0, l...), function("g", 0, 4096, 0, give(4095)))
	want(t, "called often", code.Run(u, nil, plenty), nothing)
	u.Funcs[0].Code[4000].N = 240_000
	want(t, "called less often", code.Run(u, nil, plenty), exit(3999))
	// What goes back from 166000 calls.
	f := function("f", 1, 3, 0, branch(0, 1, 5), constant(1, 1), binary(api.Sub, 2, 0, 1), call(2, "f", 2), binary(api.Add, 0, 1, 2), give(0))
	comes(t, "back", unit(f, function("main", 0, 1, 0, constant(0, 166_000), call(0, "f", 0), give(0))), "", exit(166_000))
}
