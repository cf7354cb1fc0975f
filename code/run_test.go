package code_test

import (
	"math"
	"slices"
	"strings"
	"testing"

	"doppel/api"
	"doppel/code"
	"doppel/word"
)

// TestNoRun has units that are not valid, that have no main, and whose main has Params.
func TestNoRun(t *testing.T) {
	main := function("main", 0, 1, 0, constant(0, 65), putc(0), give(0))
	want(t, "a main", code.Run(unit(main), nil, plenty), result(api.Exit, 65, "A"))
	other := function("other", 0, 1, 0, give(0))
	named := func(name string) api.Func {
		f := main
		f.Name = name
		return f
	}
	of := func(params int) api.Func {
		f := main
		f.Params, f.Regs = params, 6
		return f
	}
	for what, u := range map[string]api.Unit{
		"nothing": {}, "no function": {Top: 1}, "no main": unit(other), "Main": unit(named("Main")), "main with a blank": unit(named("main ")), "no Top": {Funcs: []api.Func{main}}, "a great Top": with(unit(main), 4097), "two of main": unit(main, main), "another that may not be": unit(main, function("f", 0, 0, 0, give(0))), "two of another": unit(main, other, other),
		"a call of nothing": unit(main, function("f", 0, 1, 0, call(0, "g"), give(0))), "a global that may not be": with(unit(main), 2, api.Global{At: 2, Size: 1}), "a main that may not be": unit(function("main", 0, 1, 0, constant(0, 1<<31), give(0))), "a main without code": unit(function("main", 0, 1, 0)),
		"a Param": unit(of(1)), "two Params": unit(of(2)), "six Params": unit(of(6)), "seven": unit(of(7)), "-1": unit(of(-1)), "a main that fits nowhere, with a Param": unit(function("main", 1, 1, 4096, give(0))),
	} {
		for _, fuel := range []int{-1, 0, 1, 100, math.MaxInt} {
			want(t, what, code.Run(u, []byte("a"), fuel), nothing)
		}
	}
	for n := range 5 {
		l := append(many(4), main)
		l[n], l[4] = l[4], l[n]
		comes(t, "main at "+number(n), unit(l...), "", result(api.Exit, 65, "A"))
	}
}

// TestKinds has each kind of instruction in a run.
func TestKinds(t *testing.T) {
	for what, c := range map[string]struct {
		u     api.Unit
		input string
		r     api.Result
	}{
		"Const":                {alone(constant(0, 7), give(0)), "", exit(7)},
		"Const, the least":     {alone(constant(3, -1<<31), give(3)), "", exit(-1 << 31)},
		"Const, the greatest":  {alone(constant(3, 1<<31-1), give(3)), "", exit(1<<31 - 1)},
		"Const, twice":         {alone(constant(0, 7), constant(0, 8), give(0)), "", exit(8)},
		"Unary":                {alone(constant(0, 7), unary(api.Neg, 1, 0), give(1)), "", exit(-7)},
		"Unary, of itself":     {alone(constant(0, 7), unary(api.Not, 0, 0), give(0)), "", exit(-8)},
		"Unary, A stays":       {alone(constant(0, 7), unary(api.Neg, 1, 0), give(0)), "", exit(7)},
		"Binary":               {alone(constant(0, 7), constant(1, 2), binary(api.Sub, 2, 0, 1), give(2)), "", exit(5)},
		"Binary, B and A":      {alone(constant(0, 7), constant(1, 2), binary(api.Sub, 2, 1, 0), give(2)), "", exit(-5)},
		"Binary, of itself":    {alone(constant(0, 7), constant(1, 2), binary(api.Shl, 1, 0, 1), give(1)), "", exit(28)},
		"Binary, of one":       {alone(constant(0, 7), binary(api.Mul, 0, 0, 0), give(0)), "", exit(49)},
		"Copy":                 {alone(constant(0, 7), copied(1, 0), constant(0, 8), give(1)), "", exit(7)},
		"Copy, of what is 0":   {alone(constant(1, 7), copied(1, 0), give(1)), "", exit(0)},
		"Copy, of itself":      {alone(constant(1, 7), copied(1, 1), give(1)), "", exit(7)},
		"Frame":                {unit(function("main", 0, 1, 5, frame(0, 0), give(0))), "", exit(1)},
		"Frame, and N":         {with(unit(function("main", 0, 1, 5, frame(0, 3), give(0))), 40), "", exit(43)},
		"Frame, behind it":     {with(unit(function("main", 0, 1, 5, frame(0, 5), give(0))), 40), "", exit(45)},
		"Frame, without words": {with(unit(function("main", 0, 1, 0, frame(0, 0), give(0))), 4096), "", exit(4096)},
		"Load":                 {with(alone(constant(0, 5), load(1, 0), give(1)), 9, api.Global{At: 5, Size: 1, Init: 7}), "", exit(7)},
		"Load, of itself":      {with(alone(constant(0, 5), load(0, 0), load(0, 0), give(0)), 9, api.Global{At: 5, Init: 6}, api.Global{At: 6, Init: 8}), "", exit(8)},
		"Store":                {alone(constant(0, 5), constant(1, 7), store(0, 1), load(2, 0), give(2)), "", exit(7)},
		"Store, B stays":       {alone(constant(0, 5), constant(1, 7), store(0, 1), give(1)), "", exit(7)},
		"Store, A at A":        {alone(constant(0, 5), store(0, 0), load(2, 0), give(2)), "", exit(5)},
		"Call":                 {unit(function("main", 0, 1, 0, call(0, "f"), give(0)), function("f", 0, 1, 0, constant(0, 7), give(0))), "", exit(7)},
		"Call, arguments":      {unit(function("f", 2, 3, 0, binary(api.Sub, 2, 0, 1), give(2)), function("main", 0, 3, 0, constant(1, 7), constant(2, 3), call(0, "f", 2, 1), give(0))), "", exit(-4)},
		"Call, one twice":      {unit(function("f", 2, 3, 0, binary(api.Mul, 2, 0, 1), give(2)), function("main", 0, 3, 0, constant(1, 7), call(1, "f", 1, 1), give(1))), "", exit(49)},
		"Getc":                 {alone(getc(0), give(0)), "Az", exit(65)},
		"Getc, the second":     {alone(getc(0), getc(0), give(0)), "Az", exit(122)},
		"Putc":                 {alone(constant(0, 65), putc(0), putc(0), give(0)), "", result(api.Exit, 65, "AA")},
		"Jump":                 {alone(jump(2), give(0), constant(0, 7), give(0)), "", exit(7)},
		"Jump, back":           {alone(jump(3), constant(0, 7), give(0), jump(1)), "", exit(7)},
		"Jump, the last":       {alone(constant(1, 1), jump(3), give(1), jump(2)), "", exit(1)},
		"Branch, To":           {alone(constant(0, 1), branch(0, 2, 3), give(0), give(1)), "", exit(1)},
		"Branch, Else":         {alone(branch(0, 1, 2), give(0), constant(0, 7), give(0)), "", exit(7)},
		"Branch, 256":          {alone(constant(0, 256), branch(0, 2, 3), give(0), give(1)), "", exit(256)},
		"Branch, the least":    {alone(constant(0, -1<<31), branch(0, 2, 3), give(0), give(1)), "", exit(-1 << 31)},
		"Branch, both":         {alone(constant(0, 4), branch(1, 2, 2), give(0)), "", exit(4)},
		"Branch, back":         {alone(constant(0, 3), constant(1, 1), binary(api.Sub, 0, 0, 1), putc(1), branch(0, 2, 5), give(0)), "", result(api.Exit, 0, "\x01\x01\x01")},
		"Return":               {alone(constant(0, 4), give(0), putc(0), give(1)), "", exit(4)},
		"Return, of nothing":   {alone(give(3)), "", exit(0)},
	} {
		comes(t, what, c.u, c.input, c.r)
	}
}

// TestOperations has each operation, with words at both ends.
func TestOperations(t *testing.T) {
	l := []int{-1 << 31, -1<<31 + 1, -256, -33, -7, -2, -1, 0, 1, 2, 3, 31, 32, 33, 255, 256, 1<<16 + 5, 1<<31 - 2, 1<<31 - 1}
	ends := map[int]int{}
	for op := api.Add; op <= api.Zero; op++ {
		for _, a := range l {
			for _, b := range l {
				i := binary(op, 2, 0, 1)
				if op >= api.Neg {
					i = unary(op, 2, 0)
				}
				r := trap(2)
				if n, is := word.Do(op, a, b); is {
					r = exit(n)
				}
				comes(t, word.Name(op)+" "+number(a)+" "+number(b), alone(constant(0, a), constant(1, b), i, give(2)), "", r)
				ends[r.End]++
			}
		}
	}
	if ends[api.Trap] != 4*len(l) {
		t.Error("divisions by 0:", ends)
	}
	// Some that are known.
	for op, n := range map[api.Op]int{api.Add: 4, api.Sub: -10, api.Mul: -21, api.Div: 0, api.Rem: -3, api.DivU: 613566756, api.RemU: 1, api.And: 5, api.Or: -1, api.Xor: -6, api.Shl: -384, api.Shr: -1, api.ShrU: 1<<25 - 1, api.Eq: 0, api.Ne: 1, api.Lt: 1, api.Le: 1, api.LtU: 0, api.LeU: 0} {
		comes(t, word.Name(op), alone(constant(0, -3), constant(1, 7), binary(op, 2, 0, 1), give(2)), "", exit(n))
	}
}

// TestDivisions has divisions and rests by 0: what went out ahead of them is there.
func TestDivisions(t *testing.T) {
	for _, op := range []api.Op{api.Div, api.Rem, api.DivU, api.RemU} {
		for _, a := range []int{-1 << 31, -1, 0, 1, 65} {
			comes(t, word.Name(op), alone(constant(0, a), putc(0), binary(op, 2, 0, 1), putc(0), give(2)), "", result(api.Trap, 2, string([]byte{byte(a)})))
			comes(t, word.Name(op), unit(function("main", 0, 1, 0, call(-1, "f"), putc(0), give(0)), function("f", 0, 2, 0, constant(0, a), putc(0), binary(op, 0, 0, 1), give(1))), "", result(api.Trap, 2, string([]byte{byte(a)})))
		}
	}
}

// TestInput has each byte, and reads behind the end of the input.
func TestInput(t *testing.T) {
	u := alone(getc(0), putc(0), getc(0), constant(1, 1000), binary(api.Mul, 0, 0, 1), getc(2), binary(api.Add, 0, 0, 2), give(0))
	for n := range 256 {
		first, other := string([]byte{byte(n)}), string([]byte{byte(255 - n)})
		comes(t, number(n), u, first, result(api.Exit, -1001, first))
		comes(t, number(n), u, first+other, result(api.Exit, (255-n)*1000-1, first))
		comes(t, number(n), u, first+other+first, result(api.Exit, (255-n)*1000+n, first))
		comes(t, number(n), u, first+other+first+other, result(api.Exit, (255-n)*1000+n, first))
	}
	comes(t, "no input", u, "", result(api.Exit, -1001, "\xff"))
	want(t, "no input, nil", code.Run(u, nil, plenty), result(api.Exit, -1001, "\xff"))
	// What a called function reads is read.
	comes(t, "calls", unit(function("f", 0, 1, 0, getc(0), give(0)), function("main", 0, 1, 0, getc(0), putc(0), call(0, "f"), putc(0), getc(0), putc(0), call(0, "f"), give(0))), "abc", result(api.Exit, -1, "abc"))
}

// TestOutput has each byte, and words beyond a byte.
func TestOutput(t *testing.T) {
	for n := range 256 {
		for _, more := range []int{0, 256, -256, 1 << 16, -1 << 31, 1<<31 - 256} {
			comes(t, number(n+more), alone(constant(1, n+more), putc(1), give(1)), "", result(api.Exit, n+more, string([]byte{byte(n)})))
		}
	}
}

// TestRegistersAtFirst holds that in each call all registers but the arguments are 0, and that those of the caller stay.
func TestRegistersAtFirst(t *testing.T) {
	// f puts out its registers, fills them, and calls itself once.
	var f []api.Instr
	for n := range 6 {
		f = append(f, putc(n))
	}
	for n := 1; n < 6; n++ {
		f = append(f, constant(n, 'a'+n))
	}
	f = append(f, branch(0, 12, 14), constant(0, 0), call(0, "f", 0, 2), putc(1), putc(5), give(0))
	g := function("f", 2, 6, 0, f...)
	main := function("main", 0, 9, 0, constant(0, 'x'), constant(1, 'y'), constant(5, 'z'), call(7, "f", 0, 1), call(-1, "f", 5, 8), putc(0), putc(1), putc(5), putc(7), putc(8), give(5))
	comes(t, "registers", unit(main, g), "", result(api.Exit, 'z', "xy\x00\x00\x00\x00"+"\x00c\x00\x00\x00\x00"+"bf"+"bf"+"z\x00\x00\x00\x00\x00"+"\x00c\x00\x00\x00\x00"+"bf"+"bf"+"xyz\x00\x00"))
	// The same register is the caller's, that of the one that is called, and again the caller's.
	comes(t, "one register", unit(function("main", 0, 1, 0, constant(0, 65), call(-1, "f"), putc(0), call(-1, "f"), putc(0), call(0, "f"), putc(0), give(0)), function("f", 0, 1, 0, putc(0), constant(0, 66), putc(0), give(0))), "", result(api.Exit, 66, "\x00BA\x00BA\x00BB"))
	// One that the caller has not set is still 0 when the call has ended.
	comes(t, "not set", unit(function("main", 0, 2, 0, call(-1, "f"), putc(0), putc(1), give(1)), function("f", 0, 2, 0, constant(0, 65), constant(1, 66), give(0))), "", result(api.Exit, 0, "\x00\x00"))
}

// TestCallsWithoutDst holds that what such a call returns goes nowhere, though what it does is done.
func TestCallsWithoutDst(t *testing.T) {
	f := function("f", 1, 3, 0, putc(0), constant(2, 99), give(2))
	comes(t, "no Dst", unit(function("main", 0, 3, 0, constant(0, 65), constant(2, 7), call(-1, "f", 0), putc(0), putc(1), putc(2), give(2)), f), "", result(api.Exit, 7, "AA\x00\x07"))
	for dst := range 3 {
		output := []byte("AA\x00\x07")
		output[dst+1] = 99
		r := result(api.Exit, int(output[3]), string(output))
		comes(t, "Dst "+number(dst), unit(function("main", 0, 3, 0, constant(0, 65), constant(2, 7), call(dst, "f", 0), putc(0), putc(1), putc(2), give(2)), f), "", r)
	}
}

// TestArguments has each number of arguments, in each order.
func TestArguments(t *testing.T) {
	for n := range 7 {
		var f, main []api.Instr
		for k := range n {
			f = append(f, putc(k))
		}
		for k := range 6 {
			main = append(main, constant(k, 'a'+k))
		}
		up, down := call(-1, "f", []int{0, 1, 2, 3, 4, 5}[:n]...), call(-1, "f", []int{5, 4, 3, 2, 1, 0}[:n]...)
		main = append(main, up, down, give(0))
		f = append(f, putc(n), give(n))
		comes(t, number(n)+" arguments", unit(function("main", 0, 6, 0, main...), function("f", n, 7, 0, f...)), "", result(api.Exit, 'a', "abcdef"[:n]+"\x00"+"fedcba"[:n]+"\x00"))
	}
}

// TestNested has calls within one another, that go back to each caller with its own registers.
func TestNested(t *testing.T) {
	// f(n) is n * f(n - 1), and f(0) is 1.
	f := function("f", 1, 4, 0, constant(1, 1), branch(0, 2, 6), binary(api.Sub, 2, 0, 1), call(3, "f", 2), binary(api.Mul, 3, 3, 0), give(3), give(1))
	for n, product := range []int{1, 1, 2, 6, 24, 120, 720, 5040, 40320, 362880, 3628800, 39916800, 479001600} {
		comes(t, number(n), unit(function("main", 0, 2, 0, constant(0, n), call(1, "f", 0), give(1)), f), "", exit(product))
	}
	// b(n) is b(n - 1) + b(n - 2), and n below 2.
	b := function("b", 1, 4, 0, constant(1, 2), binary(api.Lt, 2, 0, 1), branch(2, 3, 4), give(0), constant(1, 1), binary(api.Sub, 2, 0, 1), call(3, "b", 2), binary(api.Sub, 2, 2, 1), call(2, "b", 2), binary(api.Add, 2, 2, 3), give(2))
	comes(t, "b", unit(b, function("main", 0, 2, 0, constant(0, 15), call(1, "b", 0), give(1))), "", exit(610))
	// main may call itself.
	comes(t, "main", unit(function("main", 0, 2, 0, getc(0), constant(1, 1), binary(api.Add, 1, 0, 1), branch(1, 4, 6), call(-1, "main"), putc(0), give(0))), "abc", result(api.Exit, 97, "cba"))
}

// TestEnds has runs that end in each way, each with its code and its output until then.
func TestEnds(t *testing.T) {
	puts := []api.Instr{constant(0, 'A'), putc(0)}
	for what, c := range map[string]struct {
		u api.Unit
		r api.Result
	}{
		"Exit":            {alone(append(puts[:2:2], constant(1, -5), give(1), putc(0), give(0))...), result(api.Exit, -5, "A")},
		"Trap 1, Load":    {alone(append(puts[:2:2], load(2, 1), putc(0), give(0))...), result(api.Trap, 1, "A")},
		"Trap 1, Store":   {alone(append(puts[:2:2], store(1, 1), putc(0), give(0))...), result(api.Trap, 1, "A")},
		"Trap 2":          {alone(append(puts[:2:2], binary(api.Rem, 2, 0, 1), putc(0), give(0))...), result(api.Trap, 2, "A")},
		"Trap, in a call": {unit(function("main", 0, 2, 0, append(puts[:2:2], call(0, "f", 0), putc(0), give(0))...), function("f", 1, 2, 0, putc(0), load(0, 1), putc(0), give(0))), result(api.Trap, 1, "AA")},
		"Full":            {unit(function("main", 0, 2, 0, append(puts[:2:2], call(0, "f"), putc(0), give(0))...), function("f", 0, 2, 4096, append(puts[:2:2], give(0))...)), result(api.Full, 0, "A")},
		"Full, at first":  {unit(function("main", 0, 2, 4096, append(puts[:2:2], give(0))...)), result(api.Full, 0, "")},
		"Spent":           {alone(append(puts[:2:2], jump(2))...), result(api.Spent, 0, "A")},
		"Spent, putting":  {alone(append(puts[:2:2], jump(1))...), result(api.Spent, 0, strings.Repeat("A", 500_000))},
		"Spent, calling":  {unit(function("main", 0, 2, 0, append(puts[:2:2], call(0, "main"), give(0))...)), result(api.Spent, 0, strings.Repeat("A", 333_333))},
	} {
		comes(t, what, c.u, "", c.r)
	}
}

// TestNothingShared holds that arguments are neither changed nor kept, and that results share no memory.
func TestNothingShared(t *testing.T) {
	made := func() api.Unit {
		u := unit(function("main", 0, 3, 2, constant(0, 1), load(1, 0), binary(api.Add, 1, 1, 0), store(0, 1), getc(2), call(-1, "f", 2), getc(2), putc(2), give(1)), function("f", 1, 4, 3, constant(3, 9), putc(0), give(3)))
		return with(u, 2, api.Global{Name: "g", At: 1, Size: 1, Init: 5})
	}
	u := made()
	spare := []byte("abcdefgh")
	input := spare[2:4]
	first, second, third := code.Run(u, input, plenty), code.Run(u, input, plenty), code.Run(u, input, plenty)
	if string(spare) != "abcdefgh" {
		t.Errorf("the input was changed: %q", spare)
	}
	for i := range spare {
		spare[i] = 'x'
	}
	for _, l := range [][]byte{first.Output[:cap(first.Output)], third.Output[:cap(third.Output)]} {
		for i := range l {
			l[i] = 'y'
		}
	}
	want(t, "the second of three runs", second, result(api.Exit, 6, "cd"))
	want(t, "a later run", code.Run(u, []byte("ef"), plenty), result(api.Exit, 6, "ef"))
	code.Right(u)
	code.Find(u, "f")
	for k, f := range made().Funcs {
		code.RightFunc(u.Funcs[k])
		code.Print(u.Funcs[k])
		code.Same(u.Funcs[k], f)
		if g := u.Funcs[k]; g.Name != f.Name || g.Params != f.Params || g.Regs != f.Regs || g.Frame != f.Frame || !slices.Equal(g.Code, f.Code) {
			t.Error("a function was changed")
		}
	}
	if !slices.Equal(u.Globals, made().Globals) || u.Top != 2 || len(u.Funcs) != 2 {
		t.Error("the unit was changed")
	}
}
