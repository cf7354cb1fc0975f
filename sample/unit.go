package sample

import (
	"maps"
	"slices"
	"strconv"

	"doppel/api"
)

// Name is what the functions of a unit are called, by their numbers.
func Name(k int) string {
	if k == 0 {
		return "main"
	}
	return "f" + strconv.Itoa(k)
}

// Unit is a valid unit with a main, of pseudo-random numbers: many of its runs end before long.
func Unit(seed int) api.Unit {
	n := &Numbers{Seed: uint64(seed)}
	params := []int{0}
	for range n.Below(4) {
		params = append(params, n.Below(api.MaxParams+1))
	}
	u := api.Unit{Top: 1 + n.Below(40)}
	if n.Below(8) == 0 {
		u.Top = api.MaxWords - n.Below(200)
	}
	for range n.Below(4) {
		at := 1 + n.Below(u.Top)
		u.Globals = append(u.Globals, api.Global{Name: "g", At: at, Size: n.Below(u.Top - at + 1), Init: n.Word()})
	}
	for k := range params {
		f := n.Func(k, params)
		u.Funcs = append(u.Funcs, f)
		// main may stand anywhere.
		other := n.Below(len(u.Funcs))
		u.Funcs[k], u.Funcs[other] = u.Funcs[other], u.Funcs[k]
	}
	return u
}

// Func is a valid function, of functions with so many parameters each: it may call them.
func (n *Numbers) Func(k int, params []int) api.Func {
	f := api.Func{Name: Name(k), Params: params[k], Regs: params[k] + 1 + n.Below(8), Frame: n.Below(4)}
	if n.Below(8) == 0 {
		f.Frame = n.Below(300)
	}
	many := 2 + n.Below(25)
	for range many - 1 {
		f.Code = append(f.Code, n.onward(f, 1+n.Below(api.Return), many, params))
	}
	f.Code = append(f.Code, n.onward(f, api.Jump+n.Below(3), many, params))
	return f
}

// Anyhow is a valid function of many instructions, of all kinds, with edges anywhere.
func (n *Numbers) Anyhow(many, registers int) api.Func {
	f := Func("f", n.Below(min(registers, api.MaxParams)+1), registers, 3)
	jumps, pure := 1+n.Below(5), n.Below(10)
	to := func() int { return n.Below(many) }
	for len(f.Code) < many {
		kind := 1 + n.Below(api.Putc)
		switch k := n.Below(10); {
		case k < jumps || len(f.Code) == many-1:
			kind = api.Jump + n.Below(3)
		case k < pure:
			kind = []int{api.Unary, api.Binary, api.Copy, api.Const}[n.Below(4)]
		}
		f.Code = append(f.Code, n.Instr(f, kind, []int{0, 1, 2, 3, 6}, to))
	}
	return f
}

// Mixed is functions of all sorts: some that are given, some of pseudo-random numbers, and those that may not be.
func Mixed(given ...api.Func) []api.Func {
	l := slices.Clone(given)
	for seed := range 500 {
		numbers := &Numbers{Seed: uint64(seed)}
		l = append(l, numbers.Anyhow(1+numbers.Below(20), 1+numbers.Below(9)))
	}
	wrong := Wrong()
	for _, what := range slices.Sorted(maps.Keys(wrong)) {
		l = append(l, wrong[what])
	}
	return l
}

// onward is an instruction of a kind, behind those of a function that is to have many, or a Const in place of a Return that would end it early. Most jumps lead on, if there is room.
func (n *Numbers) onward(f api.Func, kind, many int, params []int) api.Instr {
	if kind == api.Return && len(f.Code) < many/2 {
		kind = api.Const
	}
	return n.Instr(f, kind, params, func() int {
		return min(len(f.Code)+1+n.Below(4), n.Below(2*many), many-1)
	})
}

// Instr is an instruction of a kind, for a function with the registers and the frame of another one.
func (n *Numbers) Instr(f api.Func, kind int, params []int, to func() int) api.Instr {
	r := func() int { return n.Below(f.Regs) }
	switch kind {
	case api.Unary:
		return Unary(api.Neg+api.Op(n.Below(4)), r(), r())
	case api.Binary:
		return Binary(api.Add+api.Op(n.Below(19)), r(), r(), r())
	case api.Copy:
		return Copy(r(), r())
	case api.Frame:
		return Frame(r(), n.Below(f.Frame+1))
	case api.Load:
		return Load(r(), r())
	case api.Store:
		return Store(r(), r())
	case api.Call:
		k := n.Below(len(params))
		i := Call(r()-n.Below(2), Name(k))
		for i.N < params[k] {
			i.Args[i.N] = r()
			i.N++
		}
		return i
	case api.Getc:
		return Getc(r())
	case api.Putc:
		return Putc(r())
	case api.Jump:
		return Jump(to())
	case api.Branch:
		return Branch(r(), to(), to())
	case api.Return:
		return Return(r())
	}
	return Const(r(), n.Word())
}
