package inline

import (
	"doppel/api"
	"doppel/code"
)

// expanded is a valid function in which calls of small ones are expanded where there is room, and how many are.
func expanded(f api.Func, small map[string]api.Func) (api.Func, int) {
	g, many := f, 0
	g.Code = make([]api.Instr, 0, len(f.Code))
	places := make([]int, len(f.Code))
	for at, i := range f.Code {
		places[at] = len(g.Code)
		of, is := small[i.Text]
		length := len(g.Code) + len(f.Code) - at
		if !is || length+inserted(i, of) > api.MaxCode || g.Regs+of.Regs > api.MaxRegs {
			g.Code = append(g.Code, i)
			continue
		}
		g.Code = append(g.Code, instead(g, i, of)...)
		g.Regs += of.Regs
		many++
	}
	for at, i := range f.Code {
		// Calls lead nowhere else, and others may stand there now.
		if i.Kind != api.Call {
			g.Code[places[at]] = led(i, places)
		}
	}
	return g, many
}

// inserted is how many instructions take the place of a call of a small function.
func inserted(call api.Instr, of api.Func) int {
	return standing(call, of, of.Regs)[len(of.Code)]
}

// standing is where the instructions of a small function come to stand in place of a call, if the first one stands at a place, and behind these where the function goes on that has the call.
func standing(call api.Instr, of api.Func, first int) []int {
	places := make([]int, 0, len(of.Code)+1)
	for _, i := range of.Code {
		places = append(places, first)
		first++
		if i.Kind == api.Return && code.Sets(call) >= 0 {
			first++
		}
	}
	return append(places, first)
}

// instead is what takes the place of a call of a small function, behind the instructions that another one has so far.
func instead(g api.Func, call api.Instr, of api.Func) []api.Instr {
	register := func(r int) int { return g.Regs + r }
	places := standing(call, of, len(g.Code)+of.Regs)
	var l []api.Instr
	for r := range of.Regs {
		l = append(l, begun(r, call, of, register))
	}
	for _, i := range of.Code {
		i = renumbered(i, register)
		switch i.Kind {
		case api.Return:
			l = append(l, back(i, call, places[len(of.Code)])...)
			continue
		case api.Frame:
			// The frame of a function that is called begins where that of its caller ends.
			i.N += g.Frame
		}
		l = append(l, led(i, places))
	}
	return l
}

// begun is how a register of a small function gets what it has at first.
func begun(r int, call api.Instr, of api.Func, register func(r int) int) api.Instr {
	i := code.Plain(api.Const)
	if r < of.Params {
		i = code.Plain(api.Copy)
		i.A = call.Args[r]
	}
	i.Dst = register(r)
	return i
}

// renumbered is an instruction of a small function with other registers in place of its own.
func renumbered(i api.Instr, register func(r int) int) api.Instr {
	if code.Sets(i) >= 0 {
		i.Dst = register(i.Dst)
	}
	// But for calls, which a small function has none of, an instruction reads A first, then B.
	uses := code.Uses(i)
	if len(uses) > 0 {
		i.A = register(i.A)
	}
	if len(uses) > 1 {
		i.B = register(i.B)
	}
	return i
}

// back is what takes the place of a Return: the call's register is set, if it has one, and what is behind the call goes on.
func back(i, call api.Instr, to int) []api.Instr {
	var l []api.Instr
	if code.Sets(call) >= 0 {
		tell := code.Plain(api.Copy)
		tell.Dst, tell.A = call.Dst, i.A
		l = append(l, tell)
	}
	jump := code.Plain(api.Jump)
	jump.To = to
	return append(l, jump)
}

// led is an instruction that goes on where those stand now that it has led to.
func led(i api.Instr, places []int) api.Instr {
	switch i.Kind {
	case api.Branch:
		i.Else = places[i.Else]
		fallthrough
	case api.Jump:
		i.To = places[i.To]
	}
	return i
}
