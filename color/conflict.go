package color

import (
	"math/bits"

	"doppel/api"
	"doppel/code"
	"doppel/live"
)

// registers is a set of them, a bit each: a long function may have millions of conflicts.
type registers [api.MaxRegs / 64]uint64

// conflicts has what each register conflicts with, if there is anything.
type conflicts map[int]*registers

func (c conflicts) add(a, b int) {
	if a != b {
		c.of(a)[b/64] |= 1 << (b % 64)
		c.of(b)[a/64] |= 1 << (a % 64)
	}
}

// of is the set of a register, to add to it.
func (c conflicts) of(register int) *registers {
	set, is := c[register]
	if !is {
		set = new(registers)
		c[register] = set
	}
	return set
}

// each adds all pairs of a list.
func (c conflicts) each(l []int) {
	for k, a := range l {
		for _, b := range l[:k] {
			c.add(a, b)
		}
	}
}

// list is what a register conflicts with, in increasing order.
func (c conflicts) list(register int) []int {
	set, is := c[register]
	if !is {
		return nil
	}
	var l []int
	for k, rest := range set {
		for ; rest != 0; rest &= rest - 1 {
			l = append(l, 64*k+bits.TrailingZeros64(rest))
		}
	}
	return l
}

// conflictsOf is the conflicts of a valid function. What is live behind each instruction is told.
func conflictsOf(f api.Func, behind [][]int) conflicts {
	c := conflicts{}
	c.each(live.Ahead(f)[0])
	for a := range f.Params {
		for b := range a {
			c.add(a, b)
		}
	}
	for at, i := range f.Code {
		register := code.Sets(i)
		if register == none {
			continue
		}
		for _, other := range behind[at] {
			if i.Kind != api.Copy || other != i.A {
				c.add(register, other)
			}
		}
	}
	return c
}

// keptOf tells which registers of a valid function must be kept.
func keptOf(f api.Func, behind [][]int) []bool {
	kept := make([]bool, f.Regs)
	for at, i := range f.Code {
		if i.Kind != api.Call {
			continue
		}
		for _, register := range behind[at] {
			if register != i.Dst {
				kept[register] = true
			}
		}
	}
	return kept
}
