package eval

import (
	"doppel/api"
	"doppel/tree"
)

// statement begins a statement, the node n.
func (m *machine) statement(n int, x *api.Node) {
	switch x.Kind {
	case tree.Do, tree.Label, tree.Case, tree.Default:
		m.next = x.A
	case tree.If:
		m.branch(x)
	case tree.While:
		m.push(broken, nothing)
		m.test(x)
	case tree.DoWhile:
		m.enter(x)
	case tree.For:
		m.push(broken, nothing)
		m.with(x.A, func(int) { m.test(x) })
	case tree.Break:
		m.end = broken
	case tree.Continue:
		m.end = again
	case tree.Give:
		m.value = 0
		m.with(x.A, func(int) { m.end = given })
	case tree.Goto:
		m.leap(x)
	case tree.Switch:
		m.with(x.A, func(value int) { m.choose(n, value) })
	case tree.Block:
		m.list(x.A)
	}
}

// nothing is what is done where an end of a statement is only stopped.
func nothing(int) {}

// enter begins the first part of a list, a loop or a switch that is done once more or may be left.
func (m *machine) enter(x *api.Node) {
	switch x.Kind {
	case tree.Item:
		m.push(onward, func(int) { m.list(x.B) })
		m.next = x.A
	case tree.While, tree.DoWhile, tree.For:
		m.push(broken, nothing)
		m.turn(x)
	case tree.Switch:
		m.push(broken, nothing)
	}
}

// list does the statements of a list, from an item on.
func (m *machine) list(item int) {
	if item != none {
		m.enter(&m.program.Nodes[item])
	}
}

// loop is the condition of a loop, what it does after each turn, and the statement that it repeats.
func loop(x *api.Node) (condition, after, inner int) {
	if x.Kind == tree.For {
		return x.B, x.C, x.D
	}
	return x.A, none, x.B
}

// test does one more turn of a loop if its condition holds.
func (m *machine) test(x *api.Node) {
	condition, _, _ := loop(x)
	if condition == none {
		if m.use() {
			m.turn(x)
		}
		return
	}
	m.with(condition, func(holds int) {
		if holds != 0 {
			m.turn(x)
		}
	})
}

// turn does the statement of a loop, and then whatever follows it in the loop.
func (m *machine) turn(x *api.Node) {
	_, after, inner := loop(x)
	m.push(again, func(int) {
		m.with(after, func(int) { m.test(x) })
	})
	m.next = inner
}

// leap leaves out all that the function had to do: it starts at the label.
func (m *machine) leap(x *api.Node) {
	if m.use() {
		m.tasks = m.tasks[:m.now.base]
		m.start = m.places.marks[mark{kind: tree.Label, within: m.now.body, text: x.Text}]
	}
}

// choose goes on at the case of a switch, the node n, for a value.
func (m *machine) choose(n, value int) {
	to, is := m.places.marks[mark{kind: tree.Case, within: n, n: value}]
	if !is {
		to, is = m.places.marks[mark{kind: tree.Default, within: n}]
	}
	if is {
		m.resume(n, to)
	}
}
