package code_test

import (
	"math"
	"slices"
	"strings"
	"testing"

	"doppel/api"
	"doppel/code"
	"doppel/sample"
)

// hold holds whether a function may be.
func hold(t *testing.T, what string, f api.Func, right bool) {
	t.Helper()
	if code.RightFunc(f) != right {
		t.Errorf("%s: RightFunc is %v", what, !right)
	}
}

// around is a function with five registers and a frame of seven words, which has an instruction, and two more.
func around(i api.Instr) api.Func {
	return sample.Func("f", 1, 5, 7, i, sample.Return(0), sample.Return(0))
}

// TestRightFunc breaks each rule for a function, at both ends of what may be.
func TestRightFunc(t *testing.T) {
	// It names no register.
	loop := sample.Jump(0)
	for _, name := range []string{"f", "main", " ", "\x00", "a b\n", strings.Repeat("x", 1000), "\xff"} {
		hold(t, name, sample.Func(name, 0, 0, 0, loop), true)
	}
	hold(t, "no name", sample.Func("", 0, 0, 0, loop), false)
	hold(t, "nothing", api.Func{}, false)
	for _, n := range edges() {
		few := n >= 0 && n <= 6
		hold(t, "Params "+number(n), sample.Func("f", n, 10, 0, loop), few)
		hold(t, "Params and Regs "+number(n), sample.Func("f", n, n, 0, loop), few)
		hold(t, "Params "+number(n)+" of 4096", sample.Func("f", n, 4096, 0, loop), few)
		hold(t, "Regs "+number(n), sample.Func("f", 0, n, 0, loop), n >= 0 && n <= 4096)
		hold(t, "Frame "+number(n), sample.Func("f", 0, 0, n, loop), n >= 0 && n <= 4096)
		for params := range 7 {
			hold(t, "Regs "+number(n)+", Params "+number(params), sample.Func("f", params, n, 0, loop), n >= params && n <= 4096)
		}
		hold(t, "register "+number(n), sample.Func("f", 0, 4096, 0, sample.Return(n)), n >= 0 && n <= 4095)
		hold(t, "word "+number(n), sample.Func("f", 0, 1, 4096, sample.Frame(0, n), loop), n >= 0 && n <= 4096)
		hold(t, "word "+number(n)+" of none", sample.Func("f", 0, 1, 0, sample.Frame(0, n), loop), n == 0)
		hold(t, "a register of none: "+number(n), sample.Func("f", 0, 0, 0, sample.Return(n)), false)
	}
}

// TestRightLength has from no instruction to too many, and each kind as the last one.
func TestRightLength(t *testing.T) {
	for n, right := range map[int]bool{0: false, 1: true, 2: true, 8191: true, 8192: true, 8193: false, 8194: false, 100_000: false} {
		l := slices.Repeat([]api.Instr{sample.Const(0, 1)}, n)
		if n > 0 {
			l[n-1] = sample.Return(0)
		}
		hold(t, number(n)+" instructions", sample.Func("f", 0, 1, 0, l...), right)
	}
	hold(t, "nil", api.Func{Name: "f", Regs: 1}, false)
	l := slices.Repeat([]api.Instr{sample.Const(0, 1)}, 8192)
	for _, to := range edges() {
		l[8191] = sample.Jump(to)
		hold(t, "to "+number(to), sample.Func("f", 0, 1, 0, l...), to >= 0 && to < 8192)
	}
	for _, i := range sample.Kinds() {
		last := i.Kind == api.Jump || i.Kind == api.Branch || i.Kind == api.Return
		hold(t, "the last one", sample.Func("f", 0, 4, 3, sample.Return(0), sample.Return(0), i), last)
		hold(t, "the last one but one", sample.Func("f", 0, 4, 3, sample.Return(0), i, sample.Return(0)), true)
		if i.Kind == api.Jump {
			i.To = 0
		}
		hold(t, "the only one", sample.Func("f", 0, 4, 3, i), last && i.Kind != api.Branch)
	}
	hold(t, "the only one, a Branch", sample.Func("f", 0, 1, 0, sample.Branch(0, 0, 0)), true)
	for kind := 14; kind < 20; kind++ {
		hold(t, "the last one of no kind", sample.Func("f", 0, 4, 3, sample.Return(0), api.Instr{Kind: kind, Dst: -1, Else: -1}), false)
	}
	// One that may not be is found wherever it stands.
	for at := range 5 {
		l := slices.Repeat([]api.Instr{sample.Return(0)}, 5)
		hold(t, "all may be", sample.Func("f", 0, 1, 0, l...), true)
		l[at].B = 1
		hold(t, "one may not be", sample.Func("f", 0, 1, 0, l...), false)
	}
}

// span is what a number may be.
type span struct{ low, high int }

// spans is what each field may be that a kind has, in a function as around makes it. The elements of Args are told as a call has them.
func spans(i api.Instr) map[string]span {
	register, op, target := span{0, 4}, span{int(api.Add), int(api.LeU)}, span{0, 2}
	switch i.Kind {
	case api.Const:
		return map[string]span{"Dst": register, "N": {-1 << 31, 1<<31 - 1}}
	case api.Unary:
		return map[string]span{"Op": {int(api.Neg), int(api.Zero)}, "Dst": register, "A": register}
	case api.Binary:
		return map[string]span{"Op": op, "Dst": register, "A": register, "B": register}
	case api.Copy, api.Load:
		return map[string]span{"Dst": register, "A": register}
	case api.Frame:
		return map[string]span{"Dst": register, "N": {0, 7}}
	case api.Store:
		return map[string]span{"A": register, "B": register}
	case api.Call:
		l := map[string]span{"Dst": {-1, 4}}
		for k := range i.N {
			l["Args "+number(k)] = register
		}
		return l
	case api.Getc:
		return map[string]span{"Dst": register}
	case api.Putc, api.Return:
		return map[string]span{"A": register}
	case api.Jump:
		return map[string]span{"To": target}
	}
	return map[string]span{"A": register, "To": target, "Else": target}
}

// changed is each instruction that differs in one field, which has a number in place of its own.
func changed(i api.Instr, n int) map[string]api.Instr {
	l := map[string]api.Instr{}
	set := func(name string, field func(x *api.Instr) *int) {
		x := i
		*field(&x) = n
		l[name] = x
	}
	set("Dst", func(x *api.Instr) *int { return &x.Dst })
	set("A", func(x *api.Instr) *int { return &x.A })
	set("B", func(x *api.Instr) *int { return &x.B })
	set("N", func(x *api.Instr) *int { return &x.N })
	set("To", func(x *api.Instr) *int { return &x.To })
	set("Else", func(x *api.Instr) *int { return &x.Else })
	for k := range api.MaxParams {
		set("Args "+number(k), func(x *api.Instr) *int { return &x.Args[k] })
	}
	x := i
	x.Op = api.Op(n)
	l["Op"] = x
	return l
}

// TestRightFields has each field of each kind, with what may be in it, at both ends, and one beyond.
func TestRightFields(t *testing.T) {
	l := sample.Kinds()
	for n := range api.MaxParams + 1 {
		l = append(l, sample.Call(2, "f", []int{1, 0, 4, 2, 3, 0}[:n]...), sample.Call(-1, "g", make([]int, n)...))
	}
	for _, i := range l {
		hold(t, "kind "+number(i.Kind), around(i), true)
		may := spans(i)
		for _, n := range edges() {
			for name, x := range changed(i, n) {
				s, has := may[name]
				right := has && s.low <= n && n <= s.high || !has && x == i
				if i.Kind == api.Call && name == "N" {
					// What is behind the first N is 0.
					right = n >= 0 && n <= 6 && !slices.ContainsFunc(i.Args[n:], func(a int) bool { return a != 0 })
				}
				hold(t, "kind "+number(i.Kind)+", "+name+" "+number(n), around(x), right)
			}
		}
		for _, text := range []string{"", "f", " ", "other", "\x00"} {
			x := i
			x.Text = text
			hold(t, "kind "+number(i.Kind)+", Text "+text, around(x), (i.Kind == api.Call) == (text != ""))
		}
	}
}

// TestRightKinds has instructions of each number, and what is plain of each kind.
func TestRightKinds(t *testing.T) {
	for _, kind := range edges() {
		i := api.Instr{Kind: kind, Dst: -1, Else: -1}
		plain := kind == api.Store || kind == api.Putc || kind == api.Jump || kind == api.Return
		hold(t, "plain "+number(kind), around(i), plain)
		i.Dst = 0
		hold(t, "plain with Dst, "+number(kind), around(i), kind == api.Const || kind >= api.Copy && kind <= api.Load || kind == api.Getc)
		i.Dst, i.Else = -1, 0
		hold(t, "plain with Else, "+number(kind), around(i), kind == api.Branch)
		hold(t, "of zeros, "+number(kind), around(api.Instr{Kind: kind}), false)
		hold(t, "with every field, "+number(kind), sample.Func("f", 0, 50, 50, append(slices.Repeat([]api.Instr{sample.Return(0)}, 50), full(kind), sample.Return(0))...), false)
	}
}

// TestRightArguments has a Call with each number of arguments, and others behind them.
func TestRightArguments(t *testing.T) {
	for n := range 7 {
		for k := range 6 {
			for _, register := range []int{-1, 0, 1, 4, 5, math.MaxInt, math.MinInt} {
				i := sample.Call(-1, "f", make([]int, n)...)
				i.Args[k] = register
				right := register == 0 || k < n && register > 0 && register < 5
				hold(t, number(n)+" arguments, "+number(register)+" at "+number(k), around(i), right)
			}
		}
	}
	for _, n := range edges() {
		i := sample.Call(0, "f")
		i.N = n
		hold(t, number(n)+" arguments", around(i), n >= 0 && n <= 6)
	}
	none := sample.Func("f", 0, 0, 0, sample.Call(-1, "f"), sample.Jump(0))
	hold(t, "no register", none, true)
	none.Code[0].N = 1
	hold(t, "no register for an argument", none, false)
	none.Code[0] = sample.Call(0, "f")
	hold(t, "no register for a result", none, false)
}
