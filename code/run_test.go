package code_test

import (
	"math"
	"slices"
	"strings"
	"testing"

	"doppel/api"
	"doppel/code"
	"doppel/sample"
	"doppel/word"
)

// TestNoRun has units that are not valid, that have no main, and whose main has Params.
func TestNoRun(t *testing.T) {
	main := sample.Func("main", 0, 1, 0, sample.Const(0, 65), sample.Putc(0), sample.Return(0))
	want(t, "a main", code.Run(unit(main), nil, plenty), result(api.Exit, 65, "A"))
	other := sample.Func("other", 0, 1, 0, sample.Return(0))
	named := func(name string) api.Func {
		f := main
		f.Name = name
		return f
	}
	of := func(params int) api.Func {
		f := main
		f.Params, f.Regs = params, 6
		return f
	}
	for what, u := range map[string]api.Unit{
		"nothing": {}, "no function": {Top: 1}, "no main": unit(other), "Main": unit(named("Main")), "main with a blank": unit(named("main ")), "no Top": {Funcs: []api.Func{main}}, "a great Top": with(unit(main), 4097), "two of main": unit(main, main), "another that may not be": unit(main, sample.Func("f", 0, 0, 0, sample.Return(0))), "two of another": unit(main, other, other),
		"a call of nothing": unit(main, sample.Func("f", 0, 1, 0, sample.Call(0, "g"), sample.Return(0))), "a global that may not be": with(unit(main), 2, api.Global{At: 2, Size: 1}), "a main that may not be": unit(sample.Func("main", 0, 1, 0, sample.Const(0, 1<<31), sample.Return(0))), "a main without code": unit(sample.Func("main", 0, 1, 0)),
		"a Param": unit(of(1)), "two Params": unit(of(2)), "six Params": unit(of(6)), "seven": unit(of(7)), "-1": unit(of(-1)), "a main that fits nowhere, with a Param": unit(sample.Func("main", 1, 1, 4096, sample.Return(0))),
	} {
		for _, fuel := range []int{-1, 0, 1, 100, math.MaxInt} {
			want(t, what, code.Run(u, []byte("a"), fuel), nothing)
		}
	}
	for n := range 5 {
		l := append(many(4), main)
		l[n], l[4] = l[4], l[n]
		comes(t, "main at "+number(n), unit(l...), "", result(api.Exit, 65, "A"))
	}
}

// TestKinds has each kind of instruction in a run.
func TestKinds(t *testing.T) {
	for what, c := range map[string]struct {
		u     api.Unit
		input string
		r     api.Result
	}{
		"Const":                {alone(sample.Const(0, 7), sample.Return(0)), "", exit(7)},
		"Const, the least":     {alone(sample.Const(3, -1<<31), sample.Return(3)), "", exit(-1 << 31)},
		"Const, the greatest":  {alone(sample.Const(3, 1<<31-1), sample.Return(3)), "", exit(1<<31 - 1)},
		"Const, twice":         {alone(sample.Const(0, 7), sample.Const(0, 8), sample.Return(0)), "", exit(8)},
		"Unary":                {alone(sample.Const(0, 7), sample.Unary(api.Neg, 1, 0), sample.Return(1)), "", exit(-7)},
		"Unary, of itself":     {alone(sample.Const(0, 7), sample.Unary(api.Not, 0, 0), sample.Return(0)), "", exit(-8)},
		"Unary, A stays":       {alone(sample.Const(0, 7), sample.Unary(api.Neg, 1, 0), sample.Return(0)), "", exit(7)},
		"Binary":               {alone(sample.Const(0, 7), sample.Const(1, 2), sample.Binary(api.Sub, 2, 0, 1), sample.Return(2)), "", exit(5)},
		"Binary, B and A":      {alone(sample.Const(0, 7), sample.Const(1, 2), sample.Binary(api.Sub, 2, 1, 0), sample.Return(2)), "", exit(-5)},
		"Binary, of itself":    {alone(sample.Const(0, 7), sample.Const(1, 2), sample.Binary(api.Shl, 1, 0, 1), sample.Return(1)), "", exit(28)},
		"Binary, of one":       {alone(sample.Const(0, 7), sample.Binary(api.Mul, 0, 0, 0), sample.Return(0)), "", exit(49)},
		"Copy":                 {alone(sample.Const(0, 7), sample.Copy(1, 0), sample.Const(0, 8), sample.Return(1)), "", exit(7)},
		"Copy, of what is 0":   {alone(sample.Const(1, 7), sample.Copy(1, 0), sample.Return(1)), "", exit(0)},
		"Copy, of itself":      {alone(sample.Const(1, 7), sample.Copy(1, 1), sample.Return(1)), "", exit(7)},
		"Frame":                {unit(sample.Func("main", 0, 1, 5, sample.Frame(0, 0), sample.Return(0))), "", exit(1)},
		"Frame, and N":         {with(unit(sample.Func("main", 0, 1, 5, sample.Frame(0, 3), sample.Return(0))), 40), "", exit(43)},
		"Frame, behind it":     {with(unit(sample.Func("main", 0, 1, 5, sample.Frame(0, 5), sample.Return(0))), 40), "", exit(45)},
		"Frame, without words": {with(unit(sample.Func("main", 0, 1, 0, sample.Frame(0, 0), sample.Return(0))), 4096), "", exit(4096)},
		"Load":                 {with(alone(sample.Const(0, 5), sample.Load(1, 0), sample.Return(1)), 9, api.Global{At: 5, Size: 1, Init: 7}), "", exit(7)},
		"Load, of itself":      {with(alone(sample.Const(0, 5), sample.Load(0, 0), sample.Load(0, 0), sample.Return(0)), 9, api.Global{At: 5, Init: 6}, api.Global{At: 6, Init: 8}), "", exit(8)},
		"Store":                {alone(sample.Const(0, 5), sample.Const(1, 7), sample.Store(0, 1), sample.Load(2, 0), sample.Return(2)), "", exit(7)},
		"Store, B stays":       {alone(sample.Const(0, 5), sample.Const(1, 7), sample.Store(0, 1), sample.Return(1)), "", exit(7)},
		"Store, A at A":        {alone(sample.Const(0, 5), sample.Store(0, 0), sample.Load(2, 0), sample.Return(2)), "", exit(5)},
		"Call":                 {unit(sample.Func("main", 0, 1, 0, sample.Call(0, "f"), sample.Return(0)), sample.Func("f", 0, 1, 0, sample.Const(0, 7), sample.Return(0))), "", exit(7)},
		"Call, arguments":      {unit(sample.Func("f", 2, 3, 0, sample.Binary(api.Sub, 2, 0, 1), sample.Return(2)), sample.Func("main", 0, 3, 0, sample.Const(1, 7), sample.Const(2, 3), sample.Call(0, "f", 2, 1), sample.Return(0))), "", exit(-4)},
		"Call, one twice":      {unit(sample.Func("f", 2, 3, 0, sample.Binary(api.Mul, 2, 0, 1), sample.Return(2)), sample.Func("main", 0, 3, 0, sample.Const(1, 7), sample.Call(1, "f", 1, 1), sample.Return(1))), "", exit(49)},
		"Getc":                 {alone(sample.Getc(0), sample.Return(0)), "Az", exit(65)},
		"Getc, the second":     {alone(sample.Getc(0), sample.Getc(0), sample.Return(0)), "Az", exit(122)},
		"Putc":                 {alone(sample.Const(0, 65), sample.Putc(0), sample.Putc(0), sample.Return(0)), "", result(api.Exit, 65, "AA")},
		"Jump":                 {alone(sample.Jump(2), sample.Return(0), sample.Const(0, 7), sample.Return(0)), "", exit(7)},
		"Jump, back":           {alone(sample.Jump(3), sample.Const(0, 7), sample.Return(0), sample.Jump(1)), "", exit(7)},
		"Jump, the last":       {alone(sample.Const(1, 1), sample.Jump(3), sample.Return(1), sample.Jump(2)), "", exit(1)},
		"Branch, To":           {alone(sample.Const(0, 1), sample.Branch(0, 2, 3), sample.Return(0), sample.Return(1)), "", exit(1)},
		"Branch, Else":         {alone(sample.Branch(0, 1, 2), sample.Return(0), sample.Const(0, 7), sample.Return(0)), "", exit(7)},
		"Branch, 256":          {alone(sample.Const(0, 256), sample.Branch(0, 2, 3), sample.Return(0), sample.Return(1)), "", exit(256)},
		"Branch, the least":    {alone(sample.Const(0, -1<<31), sample.Branch(0, 2, 3), sample.Return(0), sample.Return(1)), "", exit(-1 << 31)},
		"Branch, both":         {alone(sample.Const(0, 4), sample.Branch(1, 2, 2), sample.Return(0)), "", exit(4)},
		"Branch, back":         {alone(sample.Const(0, 3), sample.Const(1, 1), sample.Binary(api.Sub, 0, 0, 1), sample.Putc(1), sample.Branch(0, 2, 5), sample.Return(0)), "", result(api.Exit, 0, "\x01\x01\x01")},
		"Return":               {alone(sample.Const(0, 4), sample.Return(0), sample.Putc(0), sample.Return(1)), "", exit(4)},
		"Return, of nothing":   {alone(sample.Return(3)), "", exit(0)},
	} {
		comes(t, what, c.u, c.input, c.r)
	}
}

// TestOperations has each operation, with words at both ends.
func TestOperations(t *testing.T) {
	l := []int{-1 << 31, -1<<31 + 1, -256, -33, -7, -2, -1, 0, 1, 2, 3, 31, 32, 33, 255, 256, 1<<16 + 5, 1<<31 - 2, 1<<31 - 1}
	ends := map[int]int{}
	for op := api.Add; op <= api.Zero; op++ {
		for _, a := range l {
			for _, b := range l {
				i := sample.Binary(op, 2, 0, 1)
				if op >= api.Neg {
					i = sample.Unary(op, 2, 0)
				}
				r := trap(2)
				if n, is := word.Do(op, a, b); is {
					r = exit(n)
				}
				comes(t, word.Name(op)+" "+number(a)+" "+number(b), alone(sample.Const(0, a), sample.Const(1, b), i, sample.Return(2)), "", r)
				ends[r.End]++
			}
		}
	}
	if ends[api.Trap] != 4*len(l) {
		t.Error("divisions by 0:", ends)
	}
	// Some that are known.
	for op, n := range map[api.Op]int{api.Add: 4, api.Sub: -10, api.Mul: -21, api.Div: 0, api.Rem: -3, api.DivU: 613566756, api.RemU: 1, api.And: 5, api.Or: -1, api.Xor: -6, api.Shl: -384, api.Shr: -1, api.ShrU: 1<<25 - 1, api.Eq: 0, api.Ne: 1, api.Lt: 1, api.Le: 1, api.LtU: 0, api.LeU: 0} {
		comes(t, word.Name(op), alone(sample.Const(0, -3), sample.Const(1, 7), sample.Binary(op, 2, 0, 1), sample.Return(2)), "", exit(n))
	}
}

// TestDivisions has divisions and rests by 0: what went out ahead of them is there.
func TestDivisions(t *testing.T) {
	for _, op := range []api.Op{api.Div, api.Rem, api.DivU, api.RemU} {
		for _, a := range []int{-1 << 31, -1, 0, 1, 65} {
			comes(t, word.Name(op), alone(sample.Const(0, a), sample.Putc(0), sample.Binary(op, 2, 0, 1), sample.Putc(0), sample.Return(2)), "", result(api.Trap, 2, string([]byte{byte(a)})))
			comes(t, word.Name(op), unit(sample.Func("main", 0, 1, 0, sample.Call(-1, "f"), sample.Putc(0), sample.Return(0)), sample.Func("f", 0, 2, 0, sample.Const(0, a), sample.Putc(0), sample.Binary(op, 0, 0, 1), sample.Return(1))), "", result(api.Trap, 2, string([]byte{byte(a)})))
		}
	}
}

// TestInput has each byte, and reads behind the end of the input.
func TestInput(t *testing.T) {
	u := alone(sample.Getc(0), sample.Putc(0), sample.Getc(0), sample.Const(1, 1000), sample.Binary(api.Mul, 0, 0, 1), sample.Getc(2), sample.Binary(api.Add, 0, 0, 2), sample.Return(0))
	for n := range 256 {
		first, other := string([]byte{byte(n)}), string([]byte{byte(255 - n)})
		comes(t, number(n), u, first, result(api.Exit, -1001, first))
		comes(t, number(n), u, first+other, result(api.Exit, (255-n)*1000-1, first))
		comes(t, number(n), u, first+other+first, result(api.Exit, (255-n)*1000+n, first))
		comes(t, number(n), u, first+other+first+other, result(api.Exit, (255-n)*1000+n, first))
	}
	comes(t, "no input", u, "", result(api.Exit, -1001, "\xff"))
	want(t, "no input, nil", code.Run(u, nil, plenty), result(api.Exit, -1001, "\xff"))
	// What a called function reads is read.
	comes(t, "calls", unit(sample.Func("f", 0, 1, 0, sample.Getc(0), sample.Return(0)), sample.Func("main", 0, 1, 0, sample.Getc(0), sample.Putc(0), sample.Call(0, "f"), sample.Putc(0), sample.Getc(0), sample.Putc(0), sample.Call(0, "f"), sample.Return(0))), "abc", result(api.Exit, -1, "abc"))
}

// TestOutput has each byte, and words beyond a byte.
func TestOutput(t *testing.T) {
	for n := range 256 {
		for _, more := range []int{0, 256, -256, 1 << 16, -1 << 31, 1<<31 - 256} {
			comes(t, number(n+more), alone(sample.Const(1, n+more), sample.Putc(1), sample.Return(1)), "", result(api.Exit, n+more, string([]byte{byte(n)})))
		}
	}
}

// TestRegistersAtFirst holds that in each call all registers but the arguments are 0, and that those of the caller stay.
func TestRegistersAtFirst(t *testing.T) {
	// f puts out its registers, fills them, and calls itself once.
	var f []api.Instr
	for n := range 6 {
		f = append(f, sample.Putc(n))
	}
	for n := 1; n < 6; n++ {
		f = append(f, sample.Const(n, 'a'+n))
	}
	f = append(f, sample.Branch(0, 12, 14), sample.Const(0, 0), sample.Call(0, "f", 0, 2), sample.Putc(1), sample.Putc(5), sample.Return(0))
	g := sample.Func("f", 2, 6, 0, f...)
	main := sample.Func("main", 0, 9, 0, sample.Const(0, 'x'), sample.Const(1, 'y'), sample.Const(5, 'z'), sample.Call(7, "f", 0, 1), sample.Call(-1, "f", 5, 8), sample.Putc(0), sample.Putc(1), sample.Putc(5), sample.Putc(7), sample.Putc(8), sample.Return(5))
	comes(t, "registers", unit(main, g), "", result(api.Exit, 'z', "xy\x00\x00\x00\x00"+"\x00c\x00\x00\x00\x00"+"bf"+"bf"+"z\x00\x00\x00\x00\x00"+"\x00c\x00\x00\x00\x00"+"bf"+"bf"+"xyz\x00\x00"))
	// The same register is the caller's, that of the one that is called, and again the caller's.
	comes(t, "one register", unit(sample.Func("main", 0, 1, 0, sample.Const(0, 65), sample.Call(-1, "f"), sample.Putc(0), sample.Call(-1, "f"), sample.Putc(0), sample.Call(0, "f"), sample.Putc(0), sample.Return(0)), sample.Func("f", 0, 1, 0, sample.Putc(0), sample.Const(0, 66), sample.Putc(0), sample.Return(0))), "", result(api.Exit, 66, "\x00BA\x00BA\x00BB"))
	// One that the caller has not set is still 0 when the call has ended.
	comes(t, "not set", unit(sample.Func("main", 0, 2, 0, sample.Call(-1, "f"), sample.Putc(0), sample.Putc(1), sample.Return(1)), sample.Func("f", 0, 2, 0, sample.Const(0, 65), sample.Const(1, 66), sample.Return(0))), "", result(api.Exit, 0, "\x00\x00"))
}

// TestCallsWithoutDst holds that what such a call returns goes nowhere, though what it does is done.
func TestCallsWithoutDst(t *testing.T) {
	f := sample.Func("f", 1, 3, 0, sample.Putc(0), sample.Const(2, 99), sample.Return(2))
	comes(t, "no Dst", unit(sample.Func("main", 0, 3, 0, sample.Const(0, 65), sample.Const(2, 7), sample.Call(-1, "f", 0), sample.Putc(0), sample.Putc(1), sample.Putc(2), sample.Return(2)), f), "", result(api.Exit, 7, "AA\x00\x07"))
	for dst := range 3 {
		output := []byte("AA\x00\x07")
		output[dst+1] = 99
		r := result(api.Exit, int(output[3]), string(output))
		comes(t, "Dst "+number(dst), unit(sample.Func("main", 0, 3, 0, sample.Const(0, 65), sample.Const(2, 7), sample.Call(dst, "f", 0), sample.Putc(0), sample.Putc(1), sample.Putc(2), sample.Return(2)), f), "", r)
	}
}

// TestArguments has each number of arguments, in each order.
func TestArguments(t *testing.T) {
	for n := range 7 {
		var f, main []api.Instr
		for k := range n {
			f = append(f, sample.Putc(k))
		}
		for k := range 6 {
			main = append(main, sample.Const(k, 'a'+k))
		}
		up, down := sample.Call(-1, "f", []int{0, 1, 2, 3, 4, 5}[:n]...), sample.Call(-1, "f", []int{5, 4, 3, 2, 1, 0}[:n]...)
		main = append(main, up, down, sample.Return(0))
		f = append(f, sample.Putc(n), sample.Return(n))
		comes(t, number(n)+" arguments", unit(sample.Func("main", 0, 6, 0, main...), sample.Func("f", n, 7, 0, f...)), "", result(api.Exit, 'a', "abcdef"[:n]+"\x00"+"fedcba"[:n]+"\x00"))
	}
}

// TestNested has calls within one another, that go back to each caller with its own registers.
func TestNested(t *testing.T) {
	// f(n) is n * f(n - 1), and f(0) is 1.
	f := sample.Func("f", 1, 4, 0, sample.Const(1, 1), sample.Branch(0, 2, 6), sample.Binary(api.Sub, 2, 0, 1), sample.Call(3, "f", 2), sample.Binary(api.Mul, 3, 3, 0), sample.Return(3), sample.Return(1))
	for n, product := range []int{1, 1, 2, 6, 24, 120, 720, 5040, 40320, 362880, 3628800, 39916800, 479001600} {
		comes(t, number(n), unit(sample.Func("main", 0, 2, 0, sample.Const(0, n), sample.Call(1, "f", 0), sample.Return(1)), f), "", exit(product))
	}
	// b(n) is b(n - 1) + b(n - 2), and n below 2.
	b := sample.Func("b", 1, 4, 0, sample.Const(1, 2), sample.Binary(api.Lt, 2, 0, 1), sample.Branch(2, 3, 4), sample.Return(0), sample.Const(1, 1), sample.Binary(api.Sub, 2, 0, 1), sample.Call(3, "b", 2), sample.Binary(api.Sub, 2, 2, 1), sample.Call(2, "b", 2), sample.Binary(api.Add, 2, 2, 3), sample.Return(2))
	comes(t, "b", unit(b, sample.Func("main", 0, 2, 0, sample.Const(0, 15), sample.Call(1, "b", 0), sample.Return(1))), "", exit(610))
	// main may call itself.
	comes(t, "main", unit(sample.Func("main", 0, 2, 0, sample.Getc(0), sample.Const(1, 1), sample.Binary(api.Add, 1, 0, 1), sample.Branch(1, 4, 6), sample.Call(-1, "main"), sample.Putc(0), sample.Return(0))), "abc", result(api.Exit, 97, "cba"))
}

// TestEnds has runs that end in each way, each with its code and its output until then.
func TestEnds(t *testing.T) {
	puts := []api.Instr{sample.Const(0, 'A'), sample.Putc(0)}
	for what, c := range map[string]struct {
		u api.Unit
		r api.Result
	}{
		"Exit":            {alone(append(puts[:2:2], sample.Const(1, -5), sample.Return(1), sample.Putc(0), sample.Return(0))...), result(api.Exit, -5, "A")},
		"Trap 1, Load":    {alone(append(puts[:2:2], sample.Load(2, 1), sample.Putc(0), sample.Return(0))...), result(api.Trap, 1, "A")},
		"Trap 1, Store":   {alone(append(puts[:2:2], sample.Store(1, 1), sample.Putc(0), sample.Return(0))...), result(api.Trap, 1, "A")},
		"Trap 2":          {alone(append(puts[:2:2], sample.Binary(api.Rem, 2, 0, 1), sample.Putc(0), sample.Return(0))...), result(api.Trap, 2, "A")},
		"Trap, in a call": {unit(sample.Func("main", 0, 2, 0, append(puts[:2:2], sample.Call(0, "f", 0), sample.Putc(0), sample.Return(0))...), sample.Func("f", 1, 2, 0, sample.Putc(0), sample.Load(0, 1), sample.Putc(0), sample.Return(0))), result(api.Trap, 1, "AA")},
		"Full":            {unit(sample.Func("main", 0, 2, 0, append(puts[:2:2], sample.Call(0, "f"), sample.Putc(0), sample.Return(0))...), sample.Func("f", 0, 2, 4096, append(puts[:2:2], sample.Return(0))...)), result(api.Full, 0, "A")},
		"Full, at first":  {unit(sample.Func("main", 0, 2, 4096, append(puts[:2:2], sample.Return(0))...)), result(api.Full, 0, "")},
		"Spent":           {alone(append(puts[:2:2], sample.Jump(2))...), result(api.Spent, 0, "A")},
		"Spent, putting":  {alone(append(puts[:2:2], sample.Jump(1))...), result(api.Spent, 0, strings.Repeat("A", 500_000))},
		"Spent, calling":  {unit(sample.Func("main", 0, 2, 0, append(puts[:2:2], sample.Call(0, "main"), sample.Return(0))...)), result(api.Spent, 0, strings.Repeat("A", 333_333))},
	} {
		comes(t, what, c.u, "", c.r)
	}
}

// TestNothingShared holds that arguments are neither changed nor kept, and that results share no memory.
func TestNothingShared(t *testing.T) {
	made := func() api.Unit {
		u := unit(sample.Func("main", 0, 3, 2, sample.Const(0, 1), sample.Load(1, 0), sample.Binary(api.Add, 1, 1, 0), sample.Store(0, 1), sample.Getc(2), sample.Call(-1, "f", 2), sample.Getc(2), sample.Putc(2), sample.Return(1)), sample.Func("f", 1, 4, 3, sample.Const(3, 9), sample.Putc(0), sample.Return(3)))
		return with(u, 2, api.Global{Name: "g", At: 1, Size: 1, Init: 5})
	}
	u := made()
	spare := []byte("abcdefgh")
	input := spare[2:4]
	first, second, third := code.Run(u, input, plenty), code.Run(u, input, plenty), code.Run(u, input, plenty)
	if string(spare) != "abcdefgh" {
		t.Errorf("the input was changed: %q", spare)
	}
	for i := range spare {
		spare[i] = 'x'
	}
	for _, l := range [][]byte{first.Output[:cap(first.Output)], third.Output[:cap(third.Output)]} {
		for i := range l {
			l[i] = 'y'
		}
	}
	want(t, "the second of three runs", second, result(api.Exit, 6, "cd"))
	want(t, "a later run", code.Run(u, []byte("ef"), plenty), result(api.Exit, 6, "ef"))
	code.Right(u)
	code.Find(u, "f")
	for k, f := range made().Funcs {
		code.RightFunc(u.Funcs[k])
		code.Print(u.Funcs[k])
		code.Same(u.Funcs[k], f)
		if g := u.Funcs[k]; g.Name != f.Name || g.Params != f.Params || g.Regs != f.Regs || g.Frame != f.Frame || !slices.Equal(g.Code, f.Code) {
			t.Error("a function was changed")
		}
	}
	if !slices.Equal(u.Globals, made().Globals) || u.Top != 2 || len(u.Funcs) != 2 {
		t.Error("the unit was changed")
	}
}
