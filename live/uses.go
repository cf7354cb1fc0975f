package live

import (
	"doppel/api"
	"doppel/code"
)

// uses is where a function reads and sets its registers. What is gone reads nothing; it may still set a register, which was not live behind it and so makes no difference.
type uses struct {
	from [][]int       // the instructions that may go on at each one
	sets []int         // the register that each one sets
	read map[int][]int // where each register is read
	pure map[int][]int // where pure instructions set each register
	gone []bool
}

// usesOf takes a function that may be.
func usesOf(f api.Func) uses {
	n := len(f.Code)
	u := uses{from: make([][]int, n), sets: make([]int, n), read: map[int][]int{}, pure: map[int][]int{}, gone: make([]bool, n)}
	for at, i := range f.Code {
		for _, to := range code.Next(i, at) {
			u.from[to] = append(u.from[to], at)
		}
		for _, register := range code.Uses(i) {
			u.read[register] = append(u.read[register], at)
		}
		u.sets[at] = code.Sets(i)
		if Pure(i) {
			u.pure[i.Dst] = append(u.pure[i.Dst], at)
		}
	}
	return u
}

// search tells which of many instructions are found from some of them, if step adds those to which one leads.
func search(many int, first []int, step func(at int, add func(at int))) []bool {
	found := make([]bool, many)
	var open []int
	add := func(at int) {
		if !found[at] {
			found[at] = true
			open = append(open, at)
		}
	}
	for _, at := range first {
		add(at)
	}
	for len(open) > 0 {
		at := open[len(open)-1]
		open = open[:len(open)-1]
		step(at, add)
	}
	return found
}

// live tells ahead of which instructions a register is live, and behind which: it goes back from where it is read.
func (u uses) live(register int) (ahead, behind []bool) {
	behind = make([]bool, len(u.from))
	ahead = search(len(u.from), u.readers(register), func(at int, add func(at int)) {
		for _, from := range u.from[at] {
			behind[from] = true
			if u.sets[from] != register {
				add(from)
			}
		}
	})
	return ahead, behind
}

// readers is the instructions that read a register.
func (u uses) readers(register int) []int {
	var l []int
	for _, at := range u.read[register] {
		if !u.gone[at] {
			l = append(l, at)
		}
	}
	return l
}

// dead is the pure instructions that set a register and behind which it is not live.
func (u uses) dead(register int) []int {
	_, behind := u.live(register)
	var dead []int
	for _, at := range u.pure[register] {
		if !u.gone[at] && !behind[at] {
			dead = append(dead, at)
		}
	}
	return dead
}
