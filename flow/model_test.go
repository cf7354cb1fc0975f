package flow_test

import (
	"reflect"
	"slices"
	"testing"

	"doppel/api"
	"doppel/code"
	"doppel/flow"
	"doppel/sample"
	"doppel/word"
)

// state is what is known of each register ahead of each instruction.
type state [][]value

// model goes by the words of the chapter: all rules are applied to all instructions at once, over and over.
type model struct{ f api.Func }

func (m model) never() []value { return make([]value, m.f.Regs) }

func someNever(l []value) bool {
	return slices.ContainsFunc(l, func(v value) bool { return v.Kind == flow.Never })
}

func joined(a, b value) value {
	switch {
	case a.Kind == flow.Never:
		return b
	case b.Kind == flow.Never:
		return a
	case a.Kind == flow.Known && b.Kind == flow.Known && a.N == b.N:
		return a
	}
	return value{Kind: flow.Any}
}

// operands is what an operation reads.
func (m model) operands(before []value, at int) []value {
	switch i := m.f.Code[at]; i.Kind {
	case api.Unary:
		return []value{before[i.A]}
	case api.Binary:
		return []value{before[i.A], before[i.B]}
	}
	return nil
}

// result is the result of an operation on words that are all known: neither may be.
func result(op api.Op, l []value) (n int, known, is bool) {
	if len(l) == 0 || slices.ContainsFunc(l, func(v value) bool { return v.Kind != flow.Known }) {
		return 0, false, false
	}
	n, is = word.Do(op, l[0].N, l[len(l)-1].N)
	return n, true, is
}

// after is what is known after an instruction, of the values before it.
func (m model) after(before []value, at int) []value {
	i := m.f.Code[at]
	l := slices.Clone(before)
	switch i.Kind {
	case api.Const:
		l[i.Dst] = value{flow.Known, i.N}
	case api.Copy:
		l[i.Dst] = before[i.A]
	case api.Unary, api.Binary:
		operands := m.operands(before, at)
		l[i.Dst] = value{Kind: flow.Any}
		if n, _, is := result(i.Op, operands); is {
			l[i.Dst] = value{flow.Known, n}
		} else if someNever(operands) {
			l[i.Dst] = value{Kind: flow.Never}
		}
	case api.Frame, api.Load, api.Getc:
		l[i.Dst] = value{Kind: flow.Any}
	case api.Call:
		if i.Dst >= 0 {
			l[i.Dst] = value{Kind: flow.Any}
		}
	}
	return l
}

// edges is where an instruction leads to, and whether that can be taken.
func (m model) edges(before []value, at int) map[int]bool {
	i := m.f.Code[at]
	edges := map[int]bool{}
	switch i.Kind {
	case api.Jump:
		edges[i.To] = true
	case api.Branch:
		edges[i.To], edges[i.Else] = false, false
		if a := before[i.A]; a.Kind != flow.Known || a.N != 0 {
			edges[i.To] = true
		}
		if a := before[i.A]; a.Kind != flow.Known || a.N == 0 {
			edges[i.Else] = true
		}
	case api.Return:
	default:
		edges[at+1] = true
	}
	_, known, is := result(i.Op, m.operands(before, at))
	for to := range edges {
		if known && !is || someNever(before) {
			edges[to] = false
		}
	}
	return edges
}

// rules is the rules' right sides.
func (m model) rules(s state) state {
	next := make(state, len(s))
	for at := range s {
		next[at] = m.never()
	}
	for register := range m.f.Regs {
		next[0][register] = value{Kind: flow.Known}
		if register < m.f.Params {
			next[0][register] = value{Kind: flow.Any}
		}
	}
	for from := range s {
		after := m.after(s[from], from)
		for to, taken := range m.edges(s[from], from) {
			comes := after
			if !taken {
				comes = m.never()
			}
			for register := range next[to] {
				next[to][register] = joined(next[to][register], comes[register])
			}
		}
	}
	return next
}

// least is the least solution: what is reached from Never by the rules alone.
func (m model) least() state {
	s := make(state, len(m.f.Code))
	for at := range s {
		s[at] = m.never()
	}
	for {
		next := m.rules(s)
		if reflect.DeepEqual(next, s) {
			return s
		}
		s = next
	}
}

func (m model) tells() all {
	l := all{ahead: m.least(), folded: code.Clone(m.f)}
	for at, i := range m.f.Code {
		before := l.ahead[at]
		if someNever(before) {
			continue
		}
		instead := code.Plain(api.Const)
		switch i.Kind {
		case api.Unary, api.Binary, api.Copy:
			v := m.after(before, at)[i.Dst]
			if v.Kind != flow.Known {
				continue
			}
			instead.Dst, instead.N = i.Dst, v.N
		case api.Branch:
			if before[i.A].Kind != flow.Known {
				continue
			}
			instead = code.Plain(api.Jump)
			if instead.To = i.Else; before[i.A].N != 0 {
				instead.To = i.To
			}
		default:
			continue
		}
		l.folded.Code[at] = instead
		l.count++
	}
	return l
}

// smallWords changes the words of a function: ways meet with the same one, and divisions are by 0, more often then.
func smallWords(f api.Func, numbers *sample.Numbers) api.Func {
	most := 1 + numbers.Below(5)
	for at := range f.Code {
		if i := &f.Code[at]; i.Kind == api.Const {
			i.N = numbers.Below(most)
		} else if i.Kind == api.Binary && numbers.Below(4) == 0 {
			i.Op = api.Div + api.Op(numbers.Below(4))
		}
	}
	return f
}

// meets tells whether edges that can be taken come from two instructions to one.
func (m model) meets(s state, at int) bool {
	many := 0
	for from := range s {
		if m.edges(s[from], from)[at] {
			many++
		}
	}
	return many > 1
}

// TestSmall holds that all is as the chapter says of it, for pseudo-random functions of up to nine instructions.
func TestSmall(t *testing.T) {
	seen := map[string]int{}
	count := func(what string, is bool) {
		if is {
			seen[what]++
		} else {
			seen[what] += 0
		}
	}
	for seed := range 30000 {
		numbers := &sample.Numbers{Seed: uint64(seed)}
		f := numbers.Anyhow(1+numbers.Below(9), 1+numbers.Below(4))
		if seed%3 > 0 {
			f = smallWords(f, numbers)
		}
		if !code.RightFunc(f) {
			t.Fatal("not valid:", show(f))
		}
		m := model{f}
		want := m.tells()
		if holds(t, show(f), f, want); t.Failed() {
			t.Fatal("seed", seed)
		}
		count("much to fold", want.count > 1)
		count("nothing to fold", want.count == 0)
		for at, i := range f.Code {
			before := want.ahead[at]
			count("something not reached", someNever(before))
			_, known, is := result(i.Op, m.operands(before, at))
			count("an operation without a result", known && !is && !someNever(before))
			count("a Branch that is known", i.Kind == api.Branch && want.folded.Code[at].Kind == api.Jump)
			count("a Branch that is not", i.Kind == api.Branch && want.folded.Code[at].Kind == api.Branch && !someNever(before))
			count("ways that meet with the same word", m.meets(want.ahead, at) && slices.ContainsFunc(before, func(v value) bool { return v.Kind == flow.Known && v.N > 0 }))
			count("ways that meet with unlike ones", m.meets(want.ahead, at) && f.Params == 0 && slices.Contains(before, value{Kind: flow.Any}))
		}
	}
	for what, n := range seen {
		if n < 300 {
			t.Error("too few with", what, n)
		}
	}
}

// TestMiddling has longer functions.
func TestMiddling(t *testing.T) {
	for seed := range 300 {
		numbers := &sample.Numbers{Seed: uint64(70_000 + seed)}
		f := smallWords(numbers.Anyhow(10+numbers.Below(60), 1+numbers.Below(12)), numbers)
		if holds(t, show(f), f, model{f}.tells()); t.Failed() {
			t.Fatal("seed", seed)
		}
	}
}

// every shows every valid function of so many instructions of some sorts, with two registers and no parameter.
func every(many int, show func(f api.Func)) {
	sorts := list{
		sample.Return(0), sample.Const(0, 1), sample.Const(1, 0), sample.Copy(0, 1), sample.Copy(1, 0), sample.Getc(1), sample.Putc(1), sample.Unary(api.Zero, 0, 0), sample.Binary(api.Add, 0, 0, 1), sample.Binary(api.Div, 1, 0, 1),
	}
	for to := range many {
		sorts = append(sorts, sample.Jump(to))
		for otherwise := range many {
			sorts = append(sorts, sample.Branch(otherwise%2, to, otherwise))
		}
	}
	for places := range sample.Rows(many, len(sorts)) {
		f := sample.Func("f", 0, 2, 0)
		for _, n := range places {
			f.Code = append(f.Code, sorts[n])
		}
		if code.RightFunc(f) {
			show(f)
		}
	}
}

// TestEverySmall has every function of up to three instructions of some sorts.
func TestEverySmall(t *testing.T) {
	for many := 1; many <= 3; many++ {
		every(many, func(f api.Func) {
			if !t.Failed() {
				holds(t, show(f), f, model{f}.tells())
			}
		})
	}
}

// TestLeast holds that what is told solves the rules, and is below each solution of some values that there is.
func TestLeast(t *testing.T) {
	choice := []value{{Kind: flow.Never}, {flow.Known, 0}, {flow.Known, 1}, {flow.Known, 2}, {Kind: flow.Any}}
	several := 0
	for many := 1; many <= 2; many++ {
		every(many, func(f api.Func) {
			m, solutions := model{f}, 0
			least := state(flow.Ahead(f))
			if !reflect.DeepEqual(m.rules(least), least) {
				t.Fatal("no solution:", show(f), least)
			}
			for row := range sample.Rows(many*f.Regs, len(choice)) {
				s := make(state, many)
				for k, n := range row {
					s[k/f.Regs] = append(s[k/f.Regs], choice[n])
				}
				if !reflect.DeepEqual(m.rules(s), s) {
					continue
				}
				solutions++
				for k, n := range row {
					if joined(least[k/f.Regs][k%f.Regs], choice[n]) != choice[n] {
						t.Fatal("not the least one:", show(f), least, s)
					}
				}
			}
			several += min(solutions/2, 1)
		})
	}
	if several < 10 {
		t.Error("too few functions with several solutions:", several)
	}
}
