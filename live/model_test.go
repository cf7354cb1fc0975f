package live_test

import (
	"slices"
	"testing"

	"doppel/api"
	"doppel/code"
	"doppel/sample"
)

// model tells of a function what the chapter says, word by word: it goes all paths.
type model struct{ f api.Func }

// reads and sets tell of an instruction whether it does so with a register.
func (m model) reads(at, register int) bool {
	i := m.f.Code[at]
	switch i.Kind {
	case api.Unary, api.Copy, api.Load, api.Putc, api.Branch, api.Return:
		return i.A == register
	case api.Binary, api.Store:
		return i.A == register || i.B == register
	case api.Call:
		return slices.Contains(i.Args[:i.N], register)
	}
	return false
}

func (m model) sets(at, register int) bool {
	i := m.f.Code[at]
	return i.Kind <= api.Load && i.Dst == register || (i.Kind == api.Call || i.Kind == api.Getc) && i.Dst == register
}

func (m model) next(at int) []int {
	switch i := m.f.Code[at]; i.Kind {
	case api.Jump:
		return []int{i.To}
	case api.Branch:
		return []int{i.To, i.Else}
	case api.Return:
		return nil
	}
	return []int{at + 1}
}

// live tells whether there is a path from an instruction, behind others, on which a register is read before it is set.
func (m model) live(path []int, at, register int) bool {
	if slices.Contains(path, at) {
		return false
	}
	if m.reads(at, register) || m.sets(at, register) {
		return m.reads(at, register)
	}
	return m.liveBehind(append(path, at), at, register)
}

func (m model) liveBehind(path []int, at, register int) bool {
	return slices.ContainsFunc(m.next(at), func(to int) bool { return m.live(path, to, register) })
}

func (m model) pure(at int) bool {
	switch i := m.f.Code[at]; i.Kind {
	case api.Const, api.Unary, api.Copy, api.Frame:
		return true
	case api.Binary:
		return !slices.Contains([]api.Op{api.Div, api.Rem, api.DivU, api.RemU}, i.Op)
	}
	return false
}

func (m model) dead() []int {
	var l []int
	for at, i := range m.f.Code {
		if m.pure(at) && !m.liveBehind(nil, at, i.Dst) {
			l = append(l, at)
		}
	}
	return l
}

// without is the function without an instruction: edges to it lead to the next one.
func (m model) without(out int) model {
	f := code.Clone(m.f)
	f.Code = slices.Delete(f.Code, out, out+1)
	for at := range f.Code {
		i := &f.Code[at]
		if i.To > out {
			i.To--
		}
		if i.Else > out {
			i.Else--
		}
	}
	return model{f}
}

func (m model) reached() []int {
	l := []int{0}
	for k := 0; k < len(l); k++ {
		for _, to := range m.next(l[k]) {
			if !slices.Contains(l, to) {
				l = append(l, to)
			}
		}
	}
	return l
}

// swept takes away one dead instruction after another, whichever comes, and then what is not reached.
func (m model) swept(numbers *sample.Numbers) model {
	for l := m.dead(); len(l) > 0; l = m.dead() {
		m = m.without(l[numbers.Below(len(l))])
	}
	reached := m.reached()
	for at := len(m.f.Code) - 1; at >= 0; at-- {
		if !slices.Contains(reached, at) {
			m = m.without(at)
		}
	}
	return m
}

func (m model) tells(numbers *sample.Numbers) all {
	l := all{ahead: make([][]int, len(m.f.Code)), behind: make([][]int, len(m.f.Code)), dead: m.dead()}
	for at := range m.f.Code {
		for register := range m.f.Regs {
			if m.live(nil, at, register) {
				l.ahead[at] = append(l.ahead[at], register)
			}
			if m.liveBehind(nil, at, register) {
				l.behind[at] = append(l.behind[at], register)
			}
		}
	}
	l.swept = m.swept(numbers).f
	l.gone = len(m.f.Code) - len(l.swept.Code)
	return l
}

// TestSmall holds that all is as the chapter says of it, for pseudo-random functions of up to nine instructions.
func TestSmall(t *testing.T) {
	seen := map[string]int{}
	for seed := range 6000 {
		numbers := &sample.Numbers{Seed: uint64(seed)}
		f := numbers.Anyhow(1+numbers.Below(9), 1+numbers.Below(4))
		if !code.RightFunc(f) {
			t.Fatal("not valid:", show(f))
		}
		want := model{f}.tells(numbers)
		if holds(t, show(f), f, want); t.Failed() {
			t.Fatal("seed", seed)
		}
		reached := len(model{f}.reached())
		if want.gone > 0 {
			seen["something to sweep"]++
		}
		if want.gone == 0 {
			seen["nothing to sweep"]++
		}
		if reached < len(f.Code) {
			seen["something that is not reached"]++
		}
		if want.gone > len(f.Code)-reached+len(want.dead) {
			seen["something that is dead once others went"]++
		}
		if len(want.dead) > 1 {
			seen["much that is dead"]++
		}
	}
	for _, what := range []string{"something to sweep", "nothing to sweep", "something that is not reached", "something that is dead once others went", "much that is dead"} {
		if seen[what] < 100 {
			t.Error("too few with", what, seen[what])
		}
	}
}

// TestMiddling has longer functions.
func TestMiddling(t *testing.T) {
	for seed := range 60 {
		numbers := &sample.Numbers{Seed: uint64(70_000 + seed)}
		f := numbers.Anyhow(10+numbers.Below(12), 1+numbers.Below(8))
		if holds(t, show(f), f, model{f}.tells(numbers)); t.Failed() {
			t.Fatal("seed", seed)
		}
	}
}

// TestEverySmall has every function of up to three instructions of some sorts, with two registers.
func TestEverySmall(t *testing.T) {
	for many := 1; many <= 3; many++ {
		sorts := list{
			sample.Return(0), sample.Return(1), sample.Const(0, 1), sample.Const(1, 1), sample.Copy(0, 0), sample.Copy(0, 1), sample.Copy(1, 0), sample.Copy(1, 1), sample.Getc(0), sample.Getc(1), sample.Putc(0), sample.Putc(1), sample.Binary(api.Add, 0, 0, 1), sample.Binary(api.Div, 1, 0, 1),
		}
		for to := range many {
			sorts = append(sorts, sample.Jump(to))
			for otherwise := range many {
				sorts = append(sorts, sample.Branch(otherwise%2, to, otherwise))
			}
		}
		for places := range sample.Rows(many, len(sorts)) {
			f := sample.Func("f", 1, 2, 0)
			for _, n := range places {
				f.Code = append(f.Code, sorts[n])
			}
			if code.RightFunc(f) && !t.Failed() {
				holds(t, show(f), f, model{f}.tells(&sample.Numbers{}))
			}
		}
	}
}
