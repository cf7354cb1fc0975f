package mach_test

import (
	"strings"
	"testing"

	"doppel/api"
	"doppel/mach"
	"doppel/word"
)

// TestRegisters holds which registers each line changes: those are a to h at first.
func TestRegisters(t *testing.T) {
	for lines, registers := range map[string]string{
		"li 0 65": "Abcdefgh", "li 7 65": "abcdefgA", "li 3 -1": "abc\xffefgh", "li 3 353": "abcaefgh",
		"un 0 0 not": "\x9ebcdefgh", "un 7 0 neg": "abcdefg\x9f", "un 4 5 low": "abcdffgh", "un 2 3 zero": "ab\x00defgh",
		"bin 0 1 0 sub": "\x01bcdefgh", "bin 0 0 1 sub": "\xffbcdefgh", "bin 7 3 3 add": "abcdefg\xc8", "bin 3 6 7 xor": "abc\x0fefgh", "bin 1 1 1 mul": "a\x84cdefgh", "bin 1 6 7 lt": "a\x01cdefgh",
		"mv 0 7": "hbcdefgh", "mv 7 0": "abcdefga", "mv 4 4": "abcdefgh", "mv 0 1; mv 1 2; mv 2 0": "bcbdefgh",
		"fa 0 0": "\x01bcdefgh", "fa 7 9": "abcdefg\x0a", "st 0 1; ld 7 0": "abcdefgb", "st 7 6; ld 7 7": "abcdefgg", "ld 3 0": "abc\x00efgh",
		"st 0 1": "abcdefgh", "lds 0 0": "\x00bcdefgh", "sts 1 0": "abcdefgh", "sts 1 3; lds 7 3": "abcdefgb", "sts 1 0; sts 2 1; lds 7 0; lds 6 1": "abcdefcb",
		"arg 0 0": "abcdefgh", "par 0 0": "\x00bcdefgh", "par 7 5": "abcdefg\x00", "call f": "abcdefgh", "res 5": "abcde\x00gh", "call f; res 5": "abcdehgh", "getc 0": "xbcdefgh", "getc 7; getc 3": "abcyefgx", "getc 1; getc 1; getc 1": "a\xffcdefgh",
		"jmp 9": "abcdefgh", "bnz 0 9": "abcdefgh", "jmp 10; li 0 0": "abcdefgh", "bnz 7 10; li 0 0": "abcdefgh", "li 1 0; bnz 1 11; li 0 0": "\x00\x00cdefgh",
	} {
		text := "li 0 97; li 1 98; li 2 99; li 3 100; li 4 101; li 5 102; li 6 103; li 7 104;" + lines + "; putc 0; putc 1; putc 2; putc 3; putc 4; putc 5; putc 6; putc 7; li 0 0; ret 0"
		comes(t, lines, image(object("main 4 9", text), object("f 0 0", "ret 7")), "xy", result(api.Exit, 0, registers))
	}
	// All of them are 0 at the beginning.
	comes(t, "at first", alone("putc 0; putc 1; putc 2; putc 3; putc 4; putc 5; putc 6; putc 7; ret 7"), "", result(api.Exit, 0, strings.Repeat("\x00", 8)))
	for a := range 8 {
		for b := range 8 {
			text := "li " + number(a) + " 65; mv " + number(b) + " " + number(a) + "; putc " + number(a) + "; putc " + number(b) + "; ret " + number(b)
			comes(t, text, alone(text), "", result(api.Exit, 65, "AA"))
		}
	}
}

// TestSharedRegisters holds that a function begins with the registers of its caller, and leaves its own to it.
func TestSharedRegisters(t *testing.T) {
	main := object("main 0 0", "li 0 65; li 7 66; call f; putc 0; putc 7; putc 3; ret 3")
	f := object("f 0 0", "putc 0; putc 7; li 0 97; li 3 99; call g; putc 7; ret 1")
	g := object("g 0 0", "putc 0; putc 3; li 7 98; ret 1")
	comes(t, "three functions", image(main, f, g), "", result(api.Exit, 99, "ABacbabc"))
}

// words is some of all sizes.
func words() []int {
	return []int{0, 1, -1, 2, -2, 3, -3, 7, -7, 31, 32, 33, 255, 256, -256, 65535, 65536, 1<<31 - 1, -1 << 31, 1<<31 - 2, 1 - 1<<31, 1234567, -7654321}
}

// TestOperations has each operation on many words: those that have no result are a Trap.
func TestOperations(t *testing.T) {
	traps := 0
	for k, name := range operations() {
		for _, a := range words() {
			for _, b := range words() {
				n, is := word.Do(api.Op(k+1), a, b)
				r := exit(n)
				if !is {
					r = result(api.Trap, 2, "")
					traps++
				}
				text := "un 2 0 " + name
				if k < 19 {
					text = "bin 2 0 1 " + name
				}
				text = "li 0 " + number(a) + "; li 1 " + number(b) + ";" + text + "; ret 2"
				comes(t, text, alone(text), "", r)
			}
		}
	}
	if traps != 4*len(words()) {
		t.Error("so many traps:", traps)
	}
	for text, r := range map[string]api.Result{
		"li 0 -7; li 1 2; bin 0 0 1 div; ret 0": exit(-3), "li 0 -7; li 1 2; bin 0 0 1 rem; ret 0": exit(-1), "li 0 -7; li 1 2; bin 0 0 1 divu; ret 0": exit(2147483644),
		"li 0 2147483647; li 1 1; bin 0 0 1 add; ret 0": exit(-2147483648), "li 0 5; un 1 0 neg; ret 1": exit(-5), "li 0 -1; un 1 0 low; ret 1": exit(255),
		"bin 0 1 2 div; ret 0": result(api.Trap, 2, ""), "bin 0 1 2 rem; ret 0": result(api.Trap, 2, ""), "bin 0 1 2 divu; ret 0": result(api.Trap, 2, ""), "bin 0 1 2 remu; ret 0": result(api.Trap, 2, ""),
	} {
		comes(t, text, alone(text), "", r)
	}
}

// TestAddresses has each end of what an address may be, for ld and for st.
func TestAddresses(t *testing.T) {
	for _, at := range []int{-1 << 31, -1<<31 + 1, -4096, -4095, -2, -1, 0, 1, 2, 100, 4094, 4095, 4096, 4097, 8191, 1 << 16, 1<<31 - 1} {
		r, both := result(api.Trap, 1, ""), result(api.Trap, 1, "")
		if at >= 1 && at <= 4095 {
			r, both = exit(0), exit(at)
		}
		comes(t, "ld at "+number(at), alone("li 0 "+number(at)+"; ld 1 0; ret 1"), "", r)
		comes(t, "st at "+number(at), alone("li 0 "+number(at)+"; st 0 0; ret 1"), "", r)
		comes(t, "st and ld at "+number(at), alone("li 0 "+number(at)+"; st 0 0; ld 1 0; ret 1"), "", both)
	}
	// Words beside one that is stored at stay as they are.
	for _, at := range []int{2, 3, 4094} {
		for by := -1; by <= 1; by++ {
			m := alone("li 0 " + number(at) + "; li 1 7; st 0 1; li 0 " + number(at+by) + "; ld 2 0; ret 2")
			comes(t, number(by)+" beside "+number(at), m, "", exit((1-by*by)*7))
		}
	}
	comes(t, "words are kept as they are", alone("li 0 5; li 1 -2147483648; st 0 1; ld 2 0; ret 2"), "", exit(-1<<31))
}

// TestGlobals has globals of no word, of one and of several, several at one word, and one at the last word.
func TestGlobals(t *testing.T) {
	global := func(at, size, value int) api.Global { return api.Global{At: at, Size: size, Init: value} }
	for what, c := range map[string]struct {
		top     int
		globals []api.Global
		words   map[int]int
	}{
		"none":                   {1, nil, nil},
		"none, a Top":            {4096, nil, nil},
		"one word":               {2, []api.Global{global(1, 1, 5)}, map[int]int{1: 5}},
		"values at both ends":    {9, []api.Global{global(3, 1, -1<<31), global(5, 1, 1<<31-1)}, map[int]int{3: -1 << 31, 5: 1<<31 - 1}},
		"several words":          {9, []api.Global{global(2, 4, 5)}, map[int]int{2: 5}},
		"no words":               {9, []api.Global{global(2, 0, 5)}, map[int]int{2: 5}},
		"no words, at Top":       {9, []api.Global{global(9, 0, 5)}, map[int]int{9: 5}},
		"several at one word":    {9, []api.Global{global(2, 1, 5), global(2, 1, 6), global(2, 1, 7)}, map[int]int{2: 7}},
		"several, the last is 0": {9, []api.Global{global(2, 1, 5), global(2, 0, 0)}, nil},
		"one within another":     {9, []api.Global{global(3, 1, 6), global(2, 3, 5)}, map[int]int{2: 5, 3: 6}},
		"the last word":          {4096, []api.Global{global(4095, 1, 5)}, map[int]int{4095: 5}},
		"behind the last word":   {4096, []api.Global{global(4096, 0, 5), global(4095, 1, 6)}, map[int]int{4095: 6}},
	} {
		for _, at := range []int{1, 2, 3, 4, 5, 6, 8, 9, 10, 4094, 4095} {
			comes(t, what+": at "+number(at), with(alone("li 0 "+number(at)+"; ld 0 0; ret 0"), c.top, c.globals...), "", exit(c.words[at]))
		}
	}
	comes(t, "changed", with(alone("li 0 1; ld 1 0; bin 1 1 1 add; st 0 1; ld 2 0; ret 2"), 2, global(1, 1, 21)), "", exit(42))
}

// TestInputAndOutput has getc at and behind the end of the input, each byte that may come in, and putc of words that are no bytes.
func TestInputAndOutput(t *testing.T) {
	every := make([]byte, 256)
	for b := range every {
		every[b] = byte(b)
	}
	// What is taken in goes out, until there is no more.
	echo := alone("li 1 -1; getc 0; bin 2 0 1 ne; bnz 2 5; jmp 7; putc 0; jmp 1; getc 3; ret 0")
	comes(t, "each byte", echo, string(every), result(api.Exit, -1, string(every)))
	comes(t, "no byte", echo, "", exit(-1))
	comes(t, "long input", echo, strings.Repeat(string(every), 300), result(api.Exit, -1, strings.Repeat(string(every), 300)))
	comes(t, "beyond the end", alone("getc 0; getc 0; getc 1; bin 0 0 1 add; ret 0"), "a", exit(-2))
	comes(t, "a high byte", alone("getc 0; ret 0"), "\xff", exit(255))
	for _, n := range words() {
		comes(t, "putc of "+number(n), alone("li 3 "+number(n)+"; putc 3; ret 3"), "", result(api.Exit, n, string([]byte{byte(n & 255)})))
	}
	comes(t, "functions share the input", image(object("main 0 0", "getc 0; putc 0; call f; getc 0; putc 0; ret 1"), object("f 0 0", "getc 0; putc 0; ret 1")), "abc", result(api.Exit, 0, "abc"))
}

// TestWays has jumps to each line: on, back, and to itself, and from the last line.
func TestWays(t *testing.T) {
	for text, r := range map[string]api.Result{
		"jmp 1; ret 0":                            exit(0),
		"jmp 2; putc 1; li 0 65; putc 0; ret 1":   result(api.Exit, 0, "A"),
		"jmp 3; putc 1; putc 2; li 0 65; ret 0":   exit(65),
		"jmp 3; li 0 65; ret 0; li 0 66; jmp 2":   exit(66),
		"jmp 3; putc 0; ret 1; li 0 66; jmp 1":    result(api.Exit, 0, "B"),
		"bnz 0 3; li 0 1; jmp 4; ret 1; jmp 0":    exit(0),
		"li 0 1; bnz 0 4; putc 0; ret 1; ret 0":   exit(1),
		"bnz 0 3; putc 0; ret 0; li 0 5; ret 0":   result(api.Exit, 0, "\x00"),
		"bnz 0 2; li 0 5; bnz 0 4; putc 0; ret 0": exit(5),
		"getc 0; bnz 0 0; ret 0":                  spent,
		"jmp 0":                                   spent,
		"li 0 1; bnz 0 1; ret 0":                  spent,
		"li 0 1; bnz 0 0; ret 0":                  spent,
		"jmp 1; jmp 0":                            spent,
		"li 0 1; jmp 2; bnz 0 2; ret 0":           spent,
	} {
		comes(t, text, alone(text), "", r)
	}
	// bnz to each line of many, by words of each sign.
	for _, n := range words() {
		output := "AB"
		if n != 0 {
			output = "B"
		}
		comes(t, "bnz, "+number(n), alone("li 0 65; li 1 66; li 7 "+number(n)+"; bnz 7 5; putc 0; putc 1; li 0 0; ret 0"), "", result(api.Exit, 0, output))
	}
	for to := range 9 {
		text := "li 1 " + number(to) + "; bnz 1 " + number(to) + "; putc 1; putc 1; putc 1; putc 1; putc 1; putc 1; ret 1"
		if to > 1 {
			comes(t, text, alone(text), "", result(api.Exit, to, strings.Repeat(string(rune(to)), 8-to)))
		}
	}
	// An object that is as long as it may be.
	long := image(mach.Object{Name: "main", Lines: make([]mach.Line, 1<<16)})
	for at := range long.Objects[0].Lines {
		long.Objects[0].Lines[at] = line("bnz 1 65535")
	}
	long.Objects[0].Lines[65535] = line("ret 1")
	comes(t, "falls through 65535 lines", long, "", exit(0))
	uses(t, "falls through 65535 lines", long, 65536)
	long.Objects[0].Lines[0] = line("li 1 -5")
	comes(t, "from the second line to the last one", long, "", exit(-5))
	uses(t, "from the second line to the last one", long, 3)
}

// TestReturn has words of each sign out of main, from each register.
func TestReturn(t *testing.T) {
	for _, n := range words() {
		for r := range 8 {
			comes(t, "ret "+number(n), alone("li "+number(r)+" "+number(n)+"; ret "+number(r)), "", exit(n))
		}
	}
	comes(t, "the example", image(object("main 0 0", "li 0 7; ret 0")), "", exit(7))
	comes(t, "what stands behind it is not done", alone("ret 0; putc 0; ret 0"), "", exit(0))
}

// TestEnds has runs that end in each way, each with its code and its output until then.
func TestEnds(t *testing.T) {
	const puts = "li 0 65; putc 0; "
	for lines, r := range map[string]api.Result{
		"li 1 -5; ret 1; putc 0; ret 0":    result(api.Exit, -5, "A"),
		"ld 2 1; putc 0; ret 0":            result(api.Trap, 1, "A"),
		"st 1 1; putc 0; ret 0":            result(api.Trap, 1, "A"),
		"bin 2 0 1 rem; putc 0; ret 0":     result(api.Trap, 2, "A"),
		"call ld; putc 0; ret 0":           result(api.Trap, 1, "AA"),
		"call div; putc 0; ret 0":          result(api.Trap, 2, "AA"),
		"call full; putc 0; ret 0":         result(api.Full, 0, "A"),
		"jmp 2":                            result(api.Spent, 0, "A"),
		"jmp 1":                            result(api.Spent, 0, strings.Repeat("A", 500_000)),
		"call ret; putc 0; res 0; ret 0":   result(api.Exit, 66, "ABB"),
		"call ret; res 1; putc 1; ret 1":   result(api.Exit, 66, "ABB"),
		"call ret; call ld; putc 0; jmp 0": result(api.Trap, 1, "ABB"),
		"call loop; putc 0; ret 0":         result(api.Spent, 0, "AA"),
		"bin 0 0 0 sub; un 0 0 not; ret 0": result(api.Exit, -1, "A"),
		"call ret; jmp 3":                  result(api.Spent, 0, "AB"),
	} {
		m := image(object("main 0 0", puts+lines), object("ld 0 0", "putc 0; ld 0 1; putc 0; ret 0"), object("div 0 0", "putc 0; bin 0 0 1 div; putc 0; ret 0"), object("full 0 4096", "putc 0; ret 0"), object("ret 0 0", "li 0 66; putc 0; ret 0"), object("loop 0 0", "putc 0; jmp 1"))
		comes(t, lines, m, "", r)
	}
	comes(t, "Full, at first", image(object("main 0 4096", "putc 0; ret 0")), "", result(api.Full, 0, ""))
}

// TestNothingComes has images that may not be, and ones without main.
func TestNothingComes(t *testing.T) {
	for what, m := range map[string]mach.Image{
		"nothing":          {},
		"no objects":       {Top: 1},
		"no main":          image(object("f 0 0", "putc 0; ret 0")),
		"Main":             image(object("Main 0 0", "putc 0; ret 0"), object("main_ 0 0", "putc 0; ret 0")),
		"no Top":           {Objects: []mach.Object{object("main 0 0", "putc 0; ret 0")}},
		"a main of none":   image(object("main 0 0", "putc 0; li 0 0")),
		"another of none":  image(object("main 0 0", "putc 0; ret 0"), object("f 0 0", "ret 8")),
		"two mains":        image(object("main 0 0", "putc 0; ret 0"), object("main 0 0", "putc 0; ret 0")),
		"a call of nobody": image(object("main 0 0", "putc 0; ret 0"), object("f 0 0", "call g; ret 0")),
	} {
		for _, fuel := range []int{-1, 0, 1, 100, plenty} {
			want(t, what, mach.Run(m, []byte("a"), fuel), spent)
		}
	}
}
