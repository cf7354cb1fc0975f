package live

import (
	"doppel/api"
	"doppel/code"
)

// Sweep is a function without what is dead, and not reached.
func Sweep(f api.Func) (api.Func, int) {
	if !code.RightFunc(f) {
		return code.Clone(f), 0
	}
	u := usesOf(f)
	for at, is := range reached(f) {
		u.gone[at] = !is
	}
	less := map[int]struct{}{}
	for register := range u.pure {
		less[register] = struct{}{}
	}
	for len(less) > 0 {
		less = leaveOutDead(f, u, less)
	}
	swept := remaining(f, u.gone)
	return swept, len(f.Code) - len(swept.Code)
}

// reached tells what is.
func reached(f api.Func) []bool {
	return search(len(f.Code), []int{0}, func(at int, add func(at int)) {
		for _, to := range code.Next(f.Code[at], at) {
			add(to)
		}
	})
}

// leaveOutDead takes away what is dead and sets one of some registers. It tells which registers are read less then: only what sets one of these may be dead now, and was not before.
func leaveOutDead(f api.Func, u uses, registers map[int]struct{}) map[int]struct{} {
	less := map[int]struct{}{}
	leaveOut := func(at int) {
		u.gone[at] = true
		for _, register := range code.Uses(f.Code[at]) {
			less[register] = struct{}{}
		}
	}
	for register := range registers {
		for _, at := range u.dead(register) {
			leaveOut(at)
		}
	}
	return less
}

// remaining is a function without what is gone. Edges lead to the next instruction that remains: it stands where as many others are ahead of it.
func remaining(f api.Func, gone []bool) api.Func {
	place := make([]int, len(f.Code))
	many := 0
	for at := range f.Code {
		place[at] = many
		if !gone[at] {
			many++
		}
	}
	rest := make([]api.Instr, 0, many)
	for at, i := range f.Code {
		if gone[at] {
			continue
		}
		switch i.Kind {
		case api.Branch:
			i.Else = place[i.Else]
			fallthrough
		case api.Jump:
			i.To = place[i.To]
		}
		rest = append(rest, i)
	}
	f.Code = rest
	return f
}
