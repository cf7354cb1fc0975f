package mach_test

import (
	"strings"
	"testing"

	"doppel/api"
	"doppel/mach"
	"doppel/sample"
)

// TestArguments has from no argument to six, in each order, each with the place of its own. f puts them out, and leaves all registers as they are, but 0.
func TestArguments(t *testing.T) {
	f := object("f 0 0", "par 0 0; putc 0; par 0 1; putc 0; par 0 2; putc 0; par 0 3; putc 0; par 0 4; putc 0; par 0 5; putc 0; ret 0")
	for lines, output := range map[string]string{
		"call f":                            "......",
		"arg 1 0; call f":                   "a.....",
		"arg 1 5; call f":                   ".....a",
		"arg 1 0; arg 2 1; arg 3 2; call f": "abc...",
		"arg 6 5; arg 5 4; arg 4 3; arg 3 2; arg 2 1; arg 1 0; call f": "abcdef",
		"arg 1 1; arg 2 1; arg 3 3; arg 3 4; call f":                   ".b.cc.",
		"arg 1 0; li 1 65; arg 1 1; call f":                            "aA....",
		"arg 1 2; arg 0 2; call f":                                     "......",
		"arg 1 0; mv 2 1; putc 2; arg 2 3; putc 1; call f":             "aaa..a..",
		"arg 1 0; getc 1; putc 1; call f; par 1 0; putc 1":             "\xffa......",
		"arg 1 4; arg 2 0; call empty; arg 1 1; call f":                ".a....",
		"arg 1 4; arg 2 0; call f; arg 1 1; call f; call f":            "b...a." + ".a...." + "......",
		"arg 1 4; arg 2 0; call empty; call f":                         "......",
	} {
		main := object("main 0 0", "li 1 97; li 2 98; li 3 99; li 4 100; li 5 101; li 6 102; li 7 103;"+lines+"; li 0 0; ret 0")
		comes(t, lines, image(main, f, object("empty 0 0", "ret 0")), "", result(api.Exit, 0, strings.ReplaceAll(output, ".", "\x00")))
	}
	// main has none.
	comes(t, "arguments of main", image(object("main 0 0", "par 0 0; putc 0; par 1 5; putc 1; ret 0")), "", result(api.Exit, 0, "\x00\x00"))
	// Words are handed on as they are.
	for _, n := range words() {
		comes(t, number(n), image(object("main 0 0", "li 0 "+number(n)+"; arg 0 3; call f; res 7; ret 7"), object("f 0 0", "par 1 3; ret 1")), "", exit(n))
	}
}

// TestArgumentsAreOfACall holds that arguments, and those for the next call, are those of one call of a function.
func TestArgumentsAreOfACall(t *testing.T) {
	shows := object("shows 0 0", "par 6 0; putc 6; par 6 1; putc 6; ret 6")
	for what, c := range map[string]struct {
		m      mach.Image
		output string
	}{
		"kept while others are called":                        {image(object("main 0 0", "li 0 65; li 1 66; arg 0 0; arg 1 1; call f; ret 7"), object("f 0 0", "li 0 67; arg 0 0; arg 0 1; call shows; par 0 0; putc 0; par 1 1; putc 1; ret 7"), shows), "CCAB"},
		"not handed on":                                       {image(object("main 0 0", "li 0 65; arg 0 0; arg 0 1; call f; ret 7"), object("f 0 0", "call shows; ret 7"), shows), "\x00\x00"},
		"not those that a function set for a call of its own": {image(object("main 0 0", "li 0 65; call f; call shows; ret 7"), object("f 0 0", "arg 0 0; arg 0 1; ret 7"), shows), "\x00\x00"},
		"0 after a call":                                      {image(object("main 0 0", "li 0 65; arg 0 0; arg 0 1; call shows; call shows; ret 7"), shows), "AA\x00\x00"},
		"0 after a call, some set anew":                       {image(object("main 0 0", "li 0 65; arg 0 0; arg 0 1; call shows; arg 0 1; call shows; call shows; ret 7"), shows), "AA\x00A\x00\x00"},
		"0 for the next one alone":                            {image(object("main 0 0", "li 0 65; arg 0 0; call f; call shows; ret 7"), object("f 0 0", "li 0 66; arg 0 1; call shows; arg 0 0; ret 7"), shows), "\x00B\x00\x00"},
		"set ahead of par":                                    {image(object("main 0 0", "li 0 65; arg 0 0; call f; ret 7"), object("f 0 0", "li 0 66; arg 0 0; par 1 0; putc 1; call shows; par 1 0; putc 1; ret 7"), shows), "AB\x00A"},
		"each call has its own":                               {image(object("main 0 0", "li 0 3; arg 0 0; call f; ret 7"), object("f 0 0", "par 0 0; bnz 0 3; ret 0; li 1 1; bin 0 0 1 sub; arg 0 0; call f; par 0 0; putc 0; ret 0")), "\x01\x02\x03"},
		"set in one turn, not in two":                         {image(object("main 0 0", "li 0 65; arg 0 0; li 1 1; call shows; bnz 2 8; li 2 1; jmp 3; ret 7; ret 7"), shows), "A\x00\x00\x00"},
	} {
		comes(t, what, c.m, "", result(api.Exit, 0, c.output))
	}
}

// TestSlots holds that each call has slots of its own, which are 0 when it begins.
func TestSlots(t *testing.T) {
	for what, c := range map[string]struct {
		m      mach.Image
		output string
	}{
		"0 at first":            {alone("li 0 65; lds 0 0; putc 0; li 0 65; lds 0 3; putc 0; ret 7"), "\x00\x00"},
		"kept":                  {alone("li 0 65; sts 0 3; li 0 66; sts 0 0; lds 1 3; putc 1; lds 1 0; putc 1; lds 1 1; putc 1; ret 7"), "AB\x00"},
		"set again":             {alone("li 0 65; sts 0 3; li 0 66; sts 0 3; lds 1 3; putc 1; sts 7 3; lds 1 3; putc 1; ret 7"), "B\x00"},
		"kept in a call":        {image(object("main 2 0", "li 0 65; sts 0 1; call f; lds 1 1; putc 1; lds 1 0; putc 1; ret 7"), object("f 2 0", "li 2 66; sts 2 1; sts 2 0; ret 7")), "A\x00"},
		"not the caller's":      {image(object("main 2 0", "li 0 65; sts 0 1; sts 0 0; call f; ret 7"), object("f 2 0", "lds 1 1; putc 1; lds 1 0; putc 1; ret 7")), "\x00\x00"},
		"0 again":               {image(object("main 2 0", "li 0 65; call f; call f; ret 7"), object("f 1 0", "lds 1 0; putc 1; sts 0 0; lds 1 0; putc 1; ret 7")), "\x00A\x00A"},
		"0, where another was":  {image(object("main 0 0", "li 0 65; call f; call g; ret 7"), object("f 2 0", "sts 0 0; sts 0 1; ret 7"), object("g 2 0", "lds 1 0; putc 1; lds 1 1; putc 1; ret 7")), "\x00\x00"},
		"0, in a deeper call":   {image(object("main 1 0", "li 0 65; call f; call g; ret 7"), object("f 3 0", "sts 0 0; sts 0 1; sts 0 2; ret 7"), object("g 1 0", "lds 1 0; putc 1; call h; ret 7"), object("h 2 0", "lds 1 0; putc 1; lds 1 1; putc 1; ret 7")), "\x00\x00\x00"},
		"no memory":             {image(object("main 1 1", "li 0 65; sts 0 0; fa 1 0; ld 2 1; putc 2; li 3 66; st 1 3; lds 2 0; putc 2; ret 7")), "\x00A"},
		"each call has its own": {image(object("main 0 0", "li 0 3; arg 0 0; call f; ret 7"), object("f 1 0", "par 0 0; bnz 0 3; ret 0; sts 0 0; li 1 1; bin 0 0 1 sub; arg 0 0; call f; lds 0 0; putc 0; ret 7")), "\x01\x02\x03"},
	} {
		comes(t, what, c.m, "", result(api.Exit, 0, c.output))
	}
	// As many as there may be, in as many calls.
	f := object("f 4096 0", "li 1 1; par 0 0; sts 0 4095; sts 0 0; bnz 0 6; ret 0; bin 0 0 1 sub; arg 0 0; call f; lds 2 0; lds 0 4095; bin 0 0 2 add; res 2; bin 0 0 2 add; ret 0")
	comes(t, "many", image(object("main 4096 0", "li 0 198; arg 0 0; call f; res 0; ret 0"), f), "", exit(198*199))
}

// TestResults holds that res tells the result of the function that returned last, wherever that was called.
func TestResults(t *testing.T) {
	for what, c := range map[string]struct {
		m      mach.Image
		output string
	}{
		"none so far":         {image(object("main 0 0", "li 0 65; res 0; putc 0; call f; ret 7"), object("f 0 0", "li 0 65; res 0; putc 0; ret 7")), "\x00\x00"},
		"the last one":        {image(object("main 0 0", "li 0 65; li 1 66; call f; call g; res 2; putc 2; call f; res 2; putc 2; ret 7"), object("f 0 0", "ret 0"), object("g 0 0", "ret 1")), "BA"},
		"more than once":      {image(object("main 0 0", "li 0 65; call f; res 2; res 3; putc 2; putc 3; li 0 66; res 4; putc 4; ret 7"), object("f 0 0", "ret 0")), "AAA"},
		"of one within":       {image(object("main 0 0", "call f; res 2; putc 2; ret 7"), object("f 0 0", "call g; res 2; putc 2; li 0 65; ret 0"), object("g 0 0", "li 0 66; ret 0")), "BA"},
		"in another function": {image(object("main 0 0", "call f; li 0 67; call g; res 0; putc 0; ret 7"), object("f 0 0", "li 0 65; ret 0"), object("g 0 0", "res 1; putc 1; ret 0")), "AC"},
		"not asked":           {image(object("main 0 0", "li 0 65; call f; putc 0; ret 7"), object("f 0 0", "li 1 66; ret 1")), "A"},
		"in its own register": {image(object("main 0 0", "call f; res 0; putc 0; ret 7"), object("f 0 0", "li 0 65; ret 0; ret 0")), "A"},
	} {
		comes(t, what, c.m, "", result(api.Exit, 0, c.output))
	}
}

// TestFrames has the addresses of frames within one another, and of those that come after others have ended.
func TestFrames(t *testing.T) {
	// f puts out its address, g its own and that of f within it, main all of them around a call of each.
	f := object("f 0 3", "fa 0 0; putc 0; ret 0")
	g := object("g 9 5", "fa 0 0; putc 0; call f; fa 0 5; putc 0; ret 0")
	main := object("main 0 2", "fa 0 0; putc 0; call f; call g; call f; fa 0 1; putc 0; ret 0")
	comes(t, "frames", with(image(main, f, g), 70), "", result(api.Exit, 71, "FHHMMHG"))
	// A frame of no words is where the next one is.
	comes(t, "a frame of no words", with(image(object("main 0 0", "fa 0 0; putc 0; call f; ret 0"), f), 65), "", result(api.Exit, 65, "AA"))
	// What is in a frame stays there for the one that comes next.
	sets := object("sets 0 2", "fa 0 1; li 1 65; st 0 1; ret 1")
	gets := object("gets 0 2", "fa 0 1; ld 1 0; putc 1; ret 1")
	comes(t, "what another left", image(object("main 0 0", "call sets; call gets; call gets; ret 7"), sets, gets), "", result(api.Exit, 0, "AA"))
	comes(t, "what is behind a frame", image(object("main 0 1", "fa 0 1; li 1 65; st 0 1; call f; ret 7"), object("f 0 1", "fa 0 0; ld 1 0; putc 1; ret 7")), "", result(api.Exit, 0, "A"))
	comes(t, "a global behind Top", with(image(object("main 0 2", "fa 0 1; ld 1 0; ret 1")), 3, api.Global{At: 3, Size: 0, Init: 5}, api.Global{At: 1, Size: 2, Init: 6}), "", exit(0))
	comes(t, "a global at Top", with(image(object("main 0 2", "fa 0 0; ld 1 0; ret 1")), 3, api.Global{At: 3, Size: 0, Init: 5}), "", exit(5))
	// Each call has a frame of its own.
	own := object("f 0 1", "par 0 0; fa 1 0; st 1 0; bnz 0 5; jmp 9; li 2 1; bin 0 0 2 sub; arg 0 0; call f; fa 1 0; bin 1 1 3 sub; ld 4 1; putc 4; ret 7")
	comes(t, "frames of their own", image(own, object("main 0 0", "li 0 3; arg 0 0; call f; ret 7")), "", result(api.Exit, 0, "\x00\x01\x02\x03"))
}

// TestFramesThatFit has frames that fit exactly, and that have one word too many, of main and of a function that is called.
func TestFramesThatFit(t *testing.T) {
	frame := func(name string, size int, lines string) mach.Object {
		return object(name+" 0 "+number(size), lines)
	}
	for _, top := range []int{1, 2, 100, 4000, 4095, 4096} {
		for _, own := range []int{0, 1, 7, 96, 4095} {
			for _, other := range []int{0, 1, 5, 4095} {
				room := 4096 - top
				if own > room || other > room-own {
					continue
				}
				for more, r := range []api.Result{result(api.Exit, 65, "A"), result(api.Full, 0, "")} {
					comes(t, "main, "+number(more)+" too many", with(image(frame("main", room+more, "li 0 65; putc 0; ret 0")), top), "", r)
					// f has what is left by main, and g what is left by f.
					m := with(image(frame("main", own, "call f; ret 0"), frame("f", other, "call g; ret 0"), frame("g", room-own-other+more, "li 0 65; putc 0; ret 0")), top)
					comes(t, "a function, "+number(more)+" too many", m, "", r)
				}
			}
		}
	}
	// A frame that is left is free: as often as one likes.
	comes(t, "again and again", image(object("main 0 0", "li 0 1000; li 1 1; call f; bin 0 0 1 sub; bnz 0 2; ret 1"), object("f 0 4095", "ret 0")), "", exit(1))
}

// TestUntilNothingFits has functions that call themselves until there is no room.
func TestUntilNothingFits(t *testing.T) {
	for _, size := range []int{21, 22, 100, 1000, 1365, 4095} {
		for _, own := range []int{0, 1, 50} {
			for _, top := range []int{1, 2, 2000, 4046} {
				m := with(image(object("f 0 "+number(size), "li 0 65; putc 0; call f; ret 0"), object("main 0 "+number(own), "call f; ret 0")), top)
				comes(t, "frames of "+number(size), m, "", result(api.Full, 0, strings.Repeat("A", (4096-top-own)/size)))
			}
		}
	}
	comes(t, "main", image(object("main 0 1000", "putc 0; call main; ret 0")), "", result(api.Full, 0, "\x00\x00\x00\x00"))
	// With this frame there is room for exactly as many as may be active.
	comes(t, "200 frames", with(image(object("main 0 20", "putc 0; call main; ret 0")), 96), "", result(api.Full, 0, strings.Repeat("\x00", 200)))
	comes(t, "199 frames", with(image(object("main 0 20", "putc 0; call main; ret 0")), 97), "", result(api.Full, 0, strings.Repeat("\x00", 199)))
}

// TestDeepCalls has 200 functions that are active, and one more.
func TestDeepCalls(t *testing.T) {
	// f puts its argument out, and calls itself with 1 less until that is 0; main is active, too.
	f := object("f 1 0", "par 0 0; putc 0; bnz 0 4; ret 0; li 1 1; bin 0 0 1 sub; arg 0 0; call f; res 2; bin 0 2 1 add; ret 0")
	for calls := 190; calls < 210; calls++ {
		var output []byte
		for n := calls - 1; n >= 0 && len(output) < 199; n-- {
			output = append(output, byte(n))
		}
		r := result(api.Full, 0, string(output))
		if calls <= 199 {
			r = result(api.Exit, calls-1, string(output))
		}
		comes(t, number(calls)+" calls in main", image(f, object("main 0 0", "li 0 "+number(calls-1)+"; arg 0 0; call f; res 0; ret 0")), "", r)
	}
	comes(t, "main in main", image(object("main 0 0", "putc 0; call main; ret 0")), "", result(api.Full, 0, strings.Repeat("\x00", 200)))
	comes(t, "two in turn", image(object("main 0 0", "putc 0; call f; ret 0"), object("f 0 0", "putc 0; call main; ret 0")), "", result(api.Full, 0, strings.Repeat("\x00", 200)))
	// Calls that have returned do not count.
	turns := object("main 0 0", "li 3 300; li 4 1; call f; bin 3 3 4 sub; bnz 3 2; li 0 198; arg 0 0; call f; res 0; ret 0")
	if r := mach.Run(image(turns, f), nil, plenty); r.End != api.Exit || r.Code != 198 || len(r.Output) != 300+199 {
		t.Error("many calls, then deep ones:", show(r))
	}
	// As a unit it is not Full, as there calls may be nested as deep as one likes.
	deep := api.Unit{Top: 1, Funcs: []api.Func{sample.Func("main", 0, 1, 0, sample.Getc(0), sample.Branch(0, 2, 3), sample.Call(-1, "main"), sample.Return(0))}}
	zero := strings.Repeat("a", 500) + "\x00"
	if r := sample.Run(deep, zero, plenty, func(api.Func, int, []int) {}); r.End != api.Exit {
		t.Error("a unit:", show(r))
	}
	comes(t, "the same as an image", image(object("main 0 0", "getc 0; bnz 0 3; ret 0; call main; ret 0")), zero, result(api.Full, 0, ""))
}

// TestNested has calls within one another that go back to each caller.
func TestNested(t *testing.T) {
	// f(n) is n * f(n - 1), and f(0) is 1.
	f := object("f 1 0", "par 0 0; li 1 1; bnz 0 4; ret 1; sts 0 0; bin 0 0 1 sub; arg 0 0; call f; res 0; lds 2 0; bin 0 0 2 mul; ret 0")
	for n, product := range []int{1, 1, 2, 6, 24, 120, 720, 5040, 40320, 362880, 3628800, 39916800, 479001600} {
		comes(t, number(n), image(object("main 0 0", "li 0 "+number(n)+"; arg 0 0; call f; res 0; ret 0"), f), "", exit(product))
	}
	// b(n) is b(n - 1) + b(n - 2), and n below 2.
	b := object("b 2 0", "par 0 0; li 1 2; bin 1 0 1 lt; bnz 1 16; li 1 1; bin 0 0 1 sub; sts 0 0; arg 0 0; call b; res 0; sts 0 1; lds 0 0; li 1 1; bin 0 0 1 sub; arg 0 0; jmp 17; ret 0; call b; res 0; lds 1 1; bin 0 0 1 add; ret 0")
	comes(t, "b", image(object("main 0 0", "li 0 15; arg 0 0; call b; res 0; ret 0"), b), "", exit(610))
}
