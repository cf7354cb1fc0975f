package lower

import (
	"maps"
	"slices"

	"doppel/api"
	"doppel/core"
	"doppel/tree"
)

// fewCases is how many words a switch holds against its value one by one.
const fewCases = 8

// statement makes a statement.
func (m *maker) statement(n int) {
	m.begin()
	x := m.program.Nodes[n]
	switch x.Kind {
	case tree.Do:
		m.effect(x.A)
	case tree.If:
		m.either(x)
	case tree.While, tree.DoWhile, tree.For:
		m.loop(x)
	case tree.Break:
		m.jump(m.within.broken)
	case tree.Continue:
		m.jump(m.within.again)
	case tree.Give:
		m.leave(x.A)
	case tree.Goto:
		m.jump(m.named(x.Text))
	case tree.Label:
		m.here(m.named(x.Text))
		m.statement(x.A)
	case tree.Switch:
		m.choose(x)
	case tree.Case, tree.Default:
		m.mark(x)
		m.statement(x.A)
	case tree.Block:
		for _, item := range core.List(m.program, x.A) {
			m.statement(item)
		}
	}
}

func (m *maker) either(x api.Node) {
	part := func(n int) func() {
		if n == none {
			return nil
		}
		return func() { m.statement(n) }
	}
	m.alternatives(m.value(x.A), part(x.B), part(x.C))
}

// leave ends the function.
func (m *maker) leave(n int) {
	if n == none {
		m.give(m.result(constant(0)))
	} else {
		m.give(m.value(n))
	}
}

// inside makes a statement with other surroundings.
func (m *maker) inside(s surroundings, n int) {
	outer := m.within
	m.within = s
	m.statement(n)
	m.within = outer
}

// loop makes a loop. Its condition stands behind what it repeats, so that a turn needs no jump besides.
func (m *maker) loop(x api.Node) {
	condition, after, inner := x.A, none, x.B
	if x.Kind == tree.For {
		m.effect(x.A)
		condition, after, inner = x.B, x.C, x.D
	}
	turn, again, test, end := m.label(), m.label(), m.label(), m.label()
	if x.Kind != tree.DoWhile {
		m.jump(test)
	}
	m.here(turn)
	m.inside(surroundings{end, again, m.within.choice}, inner)
	m.here(again)
	m.effect(after)
	m.here(test)
	if condition == none {
		m.jump(turn)
	} else {
		m.branch(m.value(condition), turn, end)
	}
	m.here(end)
}

// choose makes a switch. What leads to its cases stands behind them, for only there all of them are known.
func (m *maker) choose(x api.Node) {
	value, find, end := m.value(x.A), m.label(), m.label()
	c := &choice{map[int]int{}, end}
	m.jump(find)
	m.inside(surroundings{end, m.within.again, c}, x.B)
	m.jump(end)
	m.here(find)
	m.find(value, c, slices.Sorted(maps.Keys(c.cases)))
	m.here(end)
}

// mark lets a case or default of the innermost switch stand at the next instruction.
func (m *maker) mark(x api.Node) {
	label := m.label()
	m.here(label)
	if x.Kind == tree.Default {
		m.within.choice.otherwise = label
	} else {
		m.within.choice.cases[x.N] = label
	}
}

// find leads to the case of a word that a register has, if that is one of some words. Many of them are halved first: in core a switch uses no more fuel if it has many cases.
func (m *maker) find(register int, c *choice, words []int) {
	if len(words) > fewCases {
		half := len(words) / 2
		part := func(words []int) func() {
			return func() { m.find(register, c, words) }
		}
		below := m.result(binary(api.Lt, register, m.result(constant(words[half]))))
		m.alternatives(below, part(words[:half]), part(words[half:]))
		return
	}
	for _, n := range words {
		next := m.label()
		m.branch(m.result(binary(api.Eq, register, m.result(constant(n)))), c.cases[n], next)
		m.here(next)
	}
	m.jump(c.otherwise)
}
