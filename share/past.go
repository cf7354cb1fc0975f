package share

import (
	"slices"

	"doppel/api"
	"doppel/code"
	"doppel/live"
)

// none stands where there is no register.
const none = -1

// past is what holds of what a run has done so far. The lists tell what may hold no more when a register is set, so that not all has to be looked at then; some of what they have may be forgotten already, or be known anew.
type past struct {
	originals map[int]int         // by registers: the one that it equals
	copies    map[int][]int       // by registers: those that equalled it
	holders   map[api.Instr]int   // by instructions without a Dst: the register that holds the result
	results   map[int][]api.Instr // by registers: the results that it held, and those of it
}

// nothing is the past of the first instruction of a run.
func nothing() past {
	return past{map[int]int{}, map[int][]int{}, map[api.Instr]int{}, map[int][]api.Instr{}}
}

// original is the register that is to be read in place of another one.
func (p past) original(register int) int {
	if original, is := p.originals[register]; is {
		return original
	}
	return register
}

// instead is what takes the place of an instruction.
func (p past) instead(i api.Instr) api.Instr {
	i = reading(i, p.original)
	holder, is := p.holders[result(i)]
	if !is {
		return i
	}
	instead := code.Plain(api.Copy)
	instead.Dst, instead.A = i.Dst, holder
	return instead
}

// reading is an instruction that reads other registers instead.
func reading(i api.Instr, instead func(register int) int) api.Instr {
	switch i.Kind {
	case api.Binary, api.Store:
		i.B = instead(i.B)
		fallthrough
	case api.Unary, api.Copy, api.Load, api.Putc, api.Branch, api.Return:
		i.A = instead(i.A)
	case api.Call:
		for k := range i.N {
			i.Args[k] = instead(i.Args[k])
		}
	}
	return i
}

// result is an instruction wherever its result goes.
func result(i api.Instr) api.Instr {
	i.Dst = none
	return i
}

// add adds an instruction, which took the place of another one.
func (p past) add(i api.Instr) {
	set := code.Sets(i)
	if set == none {
		return
	}
	p.forget(set)
	reads := code.Uses(i)
	switch {
	case slices.Contains(reads, set):
		// What it read is there no more, so nothing is known of what it set.
	case i.Kind == api.Copy:
		p.originals[set] = i.A
		p.copies[i.A] = append(p.copies[i.A], set)
	case i.Kind != api.Const && live.Pure(i):
		p.holders[result(i)] = set
		for _, register := range append(reads, set) {
			p.results[register] = append(p.results[register], result(i))
		}
	}
}

// forget takes away what holds no more once a register is set.
func (p past) forget(register int) {
	delete(p.originals, register)
	for _, equal := range p.copies[register] {
		if p.originals[equal] == register {
			delete(p.originals, equal)
		}
	}
	delete(p.copies, register)
	for _, r := range p.results[register] {
		if p.holders[r] == register || slices.Contains(code.Uses(r), register) {
			delete(p.holders, r)
		}
	}
	delete(p.results, register)
}
