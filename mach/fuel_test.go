package mach_test

import (
	"math"
	"strings"
	"testing"

	"doppel/api"
	"doppel/mach"
	"doppel/sample"
)

// TestEachUsesOne holds that each line uses 1 of the fuel, and nothing else uses any.
func TestEachUsesOne(t *testing.T) {
	f := object("f 4096 4000", "ret 0")
	for text, fuel := range map[string]int{
		"ret 0": 1, "li 0 1; ret 0": 2, "un 0 1 zero; ret 0": 2, "bin 0 1 2 add; ret 0": 2, "bin 0 1 2 div; ret 0": 1, "mv 0 1; ret 0": 2, "fa 0 0; ret 0": 2,
		"li 0 1; ld 0 0; ret 0": 3, "ld 0 0; ret 0": 1, "li 0 1; st 0 1; ret 0": 3, "st 0 1; ret 0": 1, "lds 0 3; ret 0": 2, "sts 0 3; ret 0": 2,
		"arg 0 5; ret 0": 2, "par 0 5; ret 0": 2, "call f; ret 0": 3, "arg 0 0; arg 0 1; call f; res 0; ret 0": 6, "call f; call f; ret 0": 5, "call full; ret 0": 1,
		"res 0; ret 0": 2, "getc 0; ret 0": 2, "putc 0; ret 0": 2, "jmp 1; ret 0": 2, "jmp 3; ret 0; ret 0; ret 0": 2, "bnz 0 0; ret 0": 2, "li 0 1; bnz 0 3; putc 0; ret 0": 3,
		"ret 0; li 0 1; ret 0": 1, "li 0 1; li 0 1; li 0 1; li 0 1; ret 0": 5,
	} {
		uses(t, text, image(object("main 4 0", text), f, object("full 0 4096", "ret 0")), fuel)
	}
	// Loops use what their turns use.
	for _, n := range []int{1, 2, 10, 1000} {
		uses(t, "turns", alone("li 0 "+number(n)+"; li 1 1; bin 0 0 1 sub; bnz 0 2; ret 0"), 3+2*n)
	}
	// And calls what the functions use.
	g := object("g 0 1", "par 0 0; bnz 0 3; ret 0; li 1 1; bin 0 0 1 sub; arg 0 0; call g; res 0; ret 0")
	for _, n := range []int{0, 1, 2, 10, 190} {
		uses(t, "calls", image(g, object("main 0 0", "li 0 "+number(n)+"; arg 0 0; call g; ret 0")), 7+8*n)
	}
}

// TestFuelAtItsEnds has a fuel of 0 and less, and of 10^6 and more.
func TestFuelAtItsEnds(t *testing.T) {
	m := alone("ret 0")
	for _, fuel := range []int{0, -1, -2, -1 << 32, math.MinInt + 1, math.MinInt} {
		want(t, "a fuel of "+number(fuel), mach.Run(m, nil, fuel), spent)
		// Nothing is used ahead of main's frame.
		want(t, "a main that does not fit", mach.Run(image(object("main 0 4096", "ret 0")), nil, fuel), result(api.Full, 0, ""))
	}
	want(t, "a fuel of 1", mach.Run(m, nil, 1), exit(0))
	counts := func(more int) mach.Image {
		return alone("li 0 499997; li 1 1; bin 0 0 1 sub; bnz 0 2;" + strings.Repeat("li 2 5;", more) + "ret 2")
	}
	// These use 10^6 - 3 and what is more: 10^6 are enough, and no more than that are given.
	for more, r := range []api.Result{exit(0), exit(5), exit(5), exit(5), spent, spent, spent} {
		for _, fuel := range []int{1_000_000, 1_000_001, 1_000_002, 2_000_000, 1 << 32, math.MaxInt} {
			want(t, number(more)+" more, with a fuel of "+number(fuel), mach.Run(counts(more), nil, fuel), r)
		}
	}
	want(t, "one less", mach.Run(counts(3), nil, 999_999), spent)
	// Each turn uses 2.
	for fuel, bytes := range map[int]int{0: 0, 1: 1, 2: 1, 3: 2, 4: 2, 999_998: 499_999, 999_999: 500_000, 1_000_000: 500_000, 1_000_001: 500_000, 1 << 40: 500_000} {
		want(t, "putting", mach.Run(alone("putc 0; jmp 0"), nil, fuel), result(api.Spent, 0, strings.Repeat("\x00", bytes)))
	}
}

// TestOutputUntilSpent holds that what went out ahead of the end of the fuel is there, and nothing else.
func TestOutputUntilSpent(t *testing.T) {
	m := image(object("main 0 0", "li 0 65; putc 0; call f; putc 0; ret 0"), object("f 0 0", "putc 0; li 0 66; ret 0"))
	for fuel, output := range []string{"", "", "A", "A", "AA", "AA", "AA", "AAB"} {
		want(t, "a fuel of "+number(fuel), mach.Run(m, nil, fuel), result(api.Spent, 0, output))
	}
	want(t, "a fuel of 8", mach.Run(m, nil, 8), result(api.Exit, 66, "AAB"))
}

// grows holds that more fuel leaves a run as it is, or lets one that was Spent go on, and is what comes of most of it.
func grows(t *testing.T, what string, m mach.Image, input string, most int) api.Result {
	t.Helper()
	before := mach.Run(m, []byte(input), -1)
	for fuel := range most {
		now := mach.Run(m, []byte(input), fuel)
		if before.End != api.Spent && !sample.Same(before, now) {
			t.Fatalf("%s: %s, but with a fuel of %d %s", what, show(before), fuel, show(now))
		}
		if !strings.HasPrefix(string(now.Output), string(before.Output)) || len(now.Output) > len(before.Output)+1 {
			t.Fatalf("%s: %s, and with a fuel of %d %s", what, show(before), fuel, show(now))
		}
		before = now
	}
	return before
}

// TestMoreFuel holds that a run that was not Spent stays the same, with each more of fuel.
func TestMoreFuel(t *testing.T) {
	ends := map[int]int{}
	for seed := range 400 {
		ends[grows(t, number(seed), imageOf(50_000+seed), "a\x01b", 150).End]++
	}
	for end := api.Exit; end <= api.Spent; end++ {
		if ends[end] < 5 {
			t.Error("too few runs end with", end, ends)
		}
	}
	full := image(object("main 0 500", "putc 0; call main; ret 0"))
	want(t, "Full", grows(t, "Full", full, "", 40), result(api.Full, 0, strings.Repeat("\x00", 8)))
	echo := alone("li 1 1; getc 0; bin 2 0 1 add; bnz 2 5; ret 2; putc 0; jmp 1")
	want(t, "an echo", grows(t, "an echo", echo, "abc", 60), result(api.Exit, 0, "abc"))
	want(t, "an echo, Spent", grows(t, "an echo", echo, strings.Repeat("x", 100), 51), result(api.Spent, 0, strings.Repeat("x", 10)))
}
