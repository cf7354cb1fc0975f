package sample

import (
	"math"
	"slices"

	"doppel/api"
)

// Wrong is functions that may not be, each for one reason but the last two, by what is wrong with them.
func Wrong() map[string]api.Func {
	return wrongOnes(Func("f", 1, 4, 3, Const(0, -7), Jump(2), Binary(api.Div, 1, 2, 3), Branch(1, 0, 4), Return(3), Copy(2, 1), Return(3)))
}

// WrongSmall is such functions without a frame, of few instructions, with edges to later ones alone where these lead anywhere.
func WrongSmall() map[string]api.Func {
	return wrongOnes(Func("f", 1, 4, 0, Const(0, -7), Jump(2), Binary(api.Div, 1, 2, 3), Branch(1, 5, 4), Return(3), Copy(2, 1), Return(3)))
}

// wrongOnes is what a function becomes if something is made wrong.
func wrongOnes(valid api.Func) map[string]api.Func {
	wrong := map[string]api.Func{}
	add := func(what string, change func(f *api.Func)) {
		f := valid
		f.Code = slices.Clone(valid.Code)
		change(&f)
		wrong[what] = f
	}
	wrongWholes(add)
	wrongParts(add)
	add("nothing at all", func(f *api.Func) { *f = api.Func{} })
	add("instructions, nothing besides", func(f *api.Func) { *f = api.Func{Code: f.Code} })
	return wrong
}

// wrongWholes adds functions of which more than an instruction is wrong.
func wrongWholes(add func(what string, change func(f *api.Func))) {
	add("no name", func(f *api.Func) { f.Name = "" })
	add("Params of -1", func(f *api.Func) { f.Params = -1 })
	add("Params of 7", func(f *api.Func) { f.Params, f.Regs = 7, 10 })
	add("more Params than Regs", func(f *api.Func) { f.Params = 5 })
	add("Regs of 4097", func(f *api.Func) { f.Regs = 4097 })
	add("no Regs", func(f *api.Func) { f.Params, f.Regs = 0, 0 })
	add("Regs of -1", func(f *api.Func) { f.Params, f.Regs = -1, -1 })
	add("a Frame of -1", func(f *api.Func) { f.Frame = -1 })
	add("a Frame of 4097", func(f *api.Func) { f.Frame = 4097 })
	add("no instructions", func(f *api.Func) { f.Code = nil })
	add("too many instructions", func(f *api.Func) { f.Code = slices.Repeat([]api.Instr{Jump(0)}, 8193) })
	add("an end that goes on", func(f *api.Func) { f.Code = f.Code[:len(f.Code)-1] })
}

// wrongParts adds functions with an instruction that is wrong; from 5 on they are not reached.
func wrongParts(add func(what string, change func(f *api.Func))) {
	add("a kind of 0", func(f *api.Func) { f.Code[0].Kind = 0 })
	add("a kind of 14", func(f *api.Func) { f.Code[0].Kind = 14 })
	add("a kind of -1", func(f *api.Func) { f.Code[0].Kind = -1 })
	add("an unknown kind, not reached", func(f *api.Func) { f.Code[5].Kind = 99 })
	add("a Jump to -1", func(f *api.Func) { f.Code[1].To = -1 })
	add("a Jump behind the end", func(f *api.Func) { f.Code[1].To = len(f.Code) })
	add("a Jump far behind the end", func(f *api.Func) { f.Code[1].To = 1 << 40 })
	add("a Branch to -1", func(f *api.Func) { f.Code[3].To = -1 })
	add("a Branch behind the end", func(f *api.Func) { f.Code[3].To = len(f.Code) })
	add("an Else of -1", func(f *api.Func) { f.Code[3].Else = -1 })
	add("an Else behind the end", func(f *api.Func) { f.Code[3].Else = len(f.Code) })
	add("a Jump to -1, not reached", func(f *api.Func) { f.Code[5] = Jump(-1) })
	add("a register of -1", func(f *api.Func) { f.Code[0].Dst = -1 })
	add("a register too high", func(f *api.Func) { f.Code[3].A = 4 })
	add("a register far too high", func(f *api.Func) { f.Code[2].B = 1 << 40 })
	add("no word", func(f *api.Func) { f.Code[0].N = 1 << 31 })
	add("an Op where there is none", func(f *api.Func) { f.Code[0].Op = api.Add })
	add("a Text where there is none", func(f *api.Func) { f.Code[1].Text = "f" })
	add("an Else of a Jump", func(f *api.Func) { f.Code[1].Else = 0 })
	add("a To of a Return", func(f *api.Func) { f.Code[4].To = 1 })
	add("Args where there are none", func(f *api.Func) { f.Code[1].Args[5] = 1 })
	add("an operation that is none", func(f *api.Func) { f.Code[2] = Unary(api.Add, 0, 0) })
	add("a word too far for the Frame", func(f *api.Func) { f.Code[2] = Frame(0, 4) })
	add("a Call of nothing", func(f *api.Func) { f.Code[2] = Call(-1, "") })
	add("a Call with too many", func(f *api.Func) { f.Code[2] = Call(-1, "g"); f.Code[2].N = 7 })
	add("a Call of less than nothing", func(f *api.Func) { f.Code[2] = Call(-1, "g"); f.Code[2].N = -1 })
}

// WrongUnits is units that may not be, by what is wrong with them. Some function of each calls a small one, where there is any.
func WrongUnits() map[string]api.Unit {
	wrong := map[string]api.Unit{}
	add := func(what string, change func(u *api.Unit)) {
		u := api.Unit{Top: 9, Funcs: []api.Func{Func("main", 0, 2, 0, Call(0, "s", 1), Return(0)), Func("s", 1, 1, 0, Return(0))}}
		u.Globals = []api.Global{{Name: "a", At: 1, Size: 2, Init: 5}, {Name: "b", At: 9}}
		change(&u)
		wrong[what] = u
	}
	for what, f := range Wrong() {
		add("a function: "+what, func(u *api.Unit) { u.Funcs = append(u.Funcs, f) })
	}
	for what, f := range WrongSmall() {
		add("a small function: "+what, func(u *api.Unit) { u.Funcs = append([]api.Func{f}, u.Funcs...) })
	}
	wrongCalls(add)
	wrongGlobals(add)
	add("nothing at all", func(u *api.Unit) { *u = api.Unit{} })
	return wrong
}

// wrongCalls adds units with functions that do not go together.
func wrongCalls(add func(what string, change func(u *api.Unit))) {
	add("65 functions", func(u *api.Unit) {
		for k := range 63 {
			u.Funcs = append(u.Funcs, Func(Name(k+1), 0, 1, 0, Return(0)))
		}
	})
	add("two functions of one name", func(u *api.Unit) { u.Funcs = append(u.Funcs, Func("s", 1, 2, 0, Return(1))) })
	add("the same function twice", func(u *api.Unit) { u.Funcs = append(u.Funcs, u.Funcs[1]) })
	add("a Call of none", func(u *api.Unit) { u.Funcs[0].Code[0].Text = "t" })
	add("a Call of none that is not reached", func(u *api.Unit) { u.Funcs[1].Code = Read("return 0; call 0 t; return 0") })
	add("a Call with too few", func(u *api.Unit) { u.Funcs[0].Code[0] = Call(0, "s") })
	add("a Call with too many", func(u *api.Unit) { u.Funcs[0].Code[0] = Call(0, "s", 1, 1) })
	add("a Call of itself with too many", func(u *api.Unit) { u.Funcs[0].Code[0] = Call(0, "main", 1) })
}

// wrongGlobals adds units of whose memory something is wrong.
func wrongGlobals(add func(what string, change func(u *api.Unit))) {
	add("a Top of 0", func(u *api.Unit) { u.Top, u.Globals = 0, nil })
	add("a Top of -1", func(u *api.Unit) { u.Top, u.Globals = -1, nil })
	add("a Top of 4097", func(u *api.Unit) { u.Top = 4097 })
	add("a Top of 2^40", func(u *api.Unit) { u.Top = 1 << 40 })
	add("a global at 0", func(u *api.Unit) { u.Globals[0].At = 0 })
	add("a Size of -1", func(u *api.Unit) { u.Globals[0].Size = -1 })
	add("a global beyond Top", func(u *api.Unit) { u.Globals[1].Size = 1 })
	add("a global far beyond Top", func(u *api.Unit) { u.Globals[1].Size = math.MaxInt })
	add("an Init that is no word", func(u *api.Unit) { u.Globals[1].Init = 1 << 31 })
}
