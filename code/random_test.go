package code_test

import (
	"slices"
	"strings"
	"testing"

	"doppel/api"
	"doppel/code"
	"doppel/sample"
)

// TestRuns holds that runs of pseudo-random units are those of the model, with many amounts of fuel.
func TestRuns(t *testing.T) {
	ends := map[[2]int]int{}
	putting, kindsRun := 0, map[int]bool{}
	for seed := range 6000 {
		u := sample.Unit(seed)
		if !code.Right(u) {
			t.Fatal("not valid:", seed)
		}
		for _, fuel := range []int{0, 1, 2, 3, 5, 8, 13, 21, 40, 100, 2000} {
			input := "a\x00\xffb"[:fuel%5]
			got, want := code.Run(u, []byte(input), fuel), sample.Run(u, input, fuel, func(api.Func, int, []int) {})
			if !equal(got, want) {
				t.Fatalf("%d: with a fuel of %d: %s; wanted %s", seed, fuel, show(got), show(want))
			}
			if fuel == 2000 {
				ends[[2]int{got.End, min(max(got.Code, 0), 3)}]++
				putting += min(len(got.Output), 1)
			}
		}
		for _, f := range u.Funcs {
			for _, i := range f.Code {
				kindsRun[i.Kind] = true
			}
		}
	}
	for _, end := range [][2]int{{api.Exit, 0}, {api.Exit, 3}, {api.Trap, 1}, {api.Trap, 2}, {api.Full, 0}, {api.Spent, 0}} {
		if ends[end] < 50 {
			t.Error("too few ends of a sort:", end, ends)
		}
	}
	if putting < 500 || len(kindsRun) != 13 {
		t.Error("too few units that put anything out, or kinds:", putting, len(kindsRun))
	}
}

// grows holds that more fuel leaves a run as it is, or lets one that was Spent go on, and is what comes of most of it.
func grows(t *testing.T, what string, u api.Unit, input string, most int) api.Result {
	t.Helper()
	before := code.Run(u, []byte(input), -1)
	for fuel := range most {
		now := code.Run(u, []byte(input), fuel)
		if before.End != api.Spent && !equal(before, now) {
			t.Fatalf("%s: %s, but with a fuel of %d %s", what, show(before), fuel, show(now))
		}
		if !strings.HasPrefix(string(now.Output), string(before.Output)) || len(now.Output) > len(before.Output)+1 {
			t.Fatalf("%s: %s, and with a fuel of %d %s", what, show(before), fuel, show(now))
		}
		before = now
	}
	return before
}

func TestMoreFuel(t *testing.T) {
	ends := map[int]int{}
	for seed := range 400 {
		ends[grows(t, number(seed), sample.Unit(50_000+seed), "a\x01b", 150).End]++
	}
	for end := api.Exit; end <= api.Spent; end++ {
		if ends[end] < 5 {
			t.Error("too few runs end with", end, ends)
		}
	}
	full := unit(sample.Func("main", 0, 1, 500, sample.Putc(0), sample.Call(0, "main"), sample.Return(0)))
	want(t, "Full", grows(t, "Full", full, "", 40), result(api.Full, 0, strings.Repeat("\x00", 8)))
	echo := alone(sample.Const(1, 1), sample.Getc(0), sample.Binary(api.Add, 2, 0, 1), sample.Branch(2, 4, 6), sample.Putc(0), sample.Jump(1), sample.Return(2))
	want(t, "an echo", grows(t, "an echo", echo, "abc", 60), result(api.Exit, 0, "abc"))
	want(t, "an echo, Spent", grows(t, "an echo", echo, strings.Repeat("x", 100), 51), result(api.Spent, 0, strings.Repeat("x", 10)))
}

// TestSameTwice holds that a run depends on its arguments alone.
func TestSameTwice(t *testing.T) {
	for seed := range 300 {
		u := sample.Unit(70_000 + seed)
		first := code.Run(u, []byte("ab"), 500)
		roomy := api.Unit{Funcs: slices.Grow(slices.Clone(u.Funcs), 9), Globals: slices.Grow(slices.Clone(u.Globals), 9), Top: u.Top}
		code.Run(sample.Unit(seed), []byte("x"), 500)
		want(t, number(seed), code.Run(roomy, append(make([]byte, 0, 9), "ab"...), 500), first)
		slices.Reverse(roomy.Funcs)
		want(t, number(seed)+", in another order", code.Run(roomy, []byte("ab"), 500), first)
	}
}
