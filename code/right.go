package code

import (
	"doppel/api"
	"doppel/word"
)

func within(n, low, high int) bool { return low <= n && n <= high }

// RightFunc tells whether a function may be.
func RightFunc(f api.Func) bool {
	right := true
	need := func(is bool) { right = right && is }
	need(f.Name != "")
	need(within(f.Params, 0, api.MaxParams))
	need(within(f.Regs, f.Params, api.MaxRegs))
	need(within(f.Frame, 0, api.MaxWords))
	need(within(len(f.Code), 1, api.MaxCode))
	if !right {
		return false
	}
	need(within(f.Code[len(f.Code)-1].Kind, api.Jump, api.Return))
	for n := range f.Code {
		instruction(f, &f.Code[n], need)
	}
	return right
}

// instruction needs of an instruction of a function what makes it valid. What its kind has is put into a plain one: they differ then if there is anything else.
func instruction(f api.Func, i *api.Instr, need func(is bool)) {
	plain := Plain(i.Kind)
	register := func(n int) int {
		need(within(n, 0, f.Regs-1))
		return n
	}
	target := func(n int) int {
		need(within(n, 0, len(f.Code)-1))
		return n
	}
	if sets(i.Kind) && (i.Kind != api.Call || i.Dst != none) {
		plain.Dst = register(i.Dst)
	}
	if readsA(i.Kind) {
		plain.A = register(i.A)
	}
	if readsB(i.Kind) {
		plain.B = register(i.B)
	}
	switch i.Kind {
	case api.Const:
		plain.N = i.N
		need(word.Is(i.N))
	case api.Unary:
		plain.Op = i.Op
		need(word.One(i.Op))
	case api.Binary:
		plain.Op = i.Op
		need(word.Two(i.Op))
	case api.Frame:
		plain.N = i.N
		need(within(i.N, 0, f.Frame))
	case api.Call:
		plain.N, plain.Text = i.N, i.Text
		need(within(i.N, 0, api.MaxParams) && i.Text != "")
		for k, n := range arguments(i) {
			plain.Args[k] = register(n)
		}
	case api.Branch:
		plain.Else = target(i.Else)
		fallthrough
	case api.Jump:
		plain.To = target(i.To)
	}
	need(within(i.Kind, api.Const, api.Return) && *i == plain)
}

// Right tells whether a unit may be.
func Right(u api.Unit) bool {
	right := true
	need := func(is bool) { right = right && is }
	need(len(u.Funcs) <= api.MaxFuncs)
	need(within(u.Top, 1, api.MaxWords))
	if !right {
		return false
	}
	for _, g := range u.Globals {
		// The sum of At and Size might not fit an int.
		need(g.At >= 1 && within(g.Size, 0, u.Top-g.At) && word.Is(g.Init))
	}
	at := places(u)
	need(len(at) == len(u.Funcs))
	for _, f := range u.Funcs {
		need(RightFunc(f))
		eachCall(f, func(i *api.Instr) {
			k, is := at[i.Text]
			need(is && i.N == u.Funcs[k].Params)
		})
	}
	return right
}

// eachCall shows each Call of a function.
func eachCall(f api.Func, show func(i *api.Instr)) {
	for n := range f.Code {
		if i := &f.Code[n]; i.Kind == api.Call {
			show(i)
		}
	}
}
