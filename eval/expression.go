package eval

import (
	"doppel/api"
	"doppel/core"
	"doppel/word"
)

// expression begins an expression. Its value is there when all tasks are done that it adds.
func (m *machine) expression(x *api.Node) {
	switch x.Kind {
	case core.Num:
		m.value = x.N
	case core.Reg:
		m.value = m.now.registers[x.N]
	case core.Frame:
		m.value = m.now.frame + x.N
	case core.Load:
		m.with(x.A, m.load)
	case core.Store:
		m.with(x.A, func(address int) {
			m.with(x.B, func(n int) { m.store(address, n) })
		})
	case core.Set:
		m.with(x.A, func(n int) { m.now.registers[x.N] = n })
	case core.One:
		m.with(x.A, func(a int) { m.operate(x.N, a, 0) })
	case core.Two:
		m.with(x.A, func(a int) {
			m.with(x.B, func(b int) { m.operate(x.N, a, b) })
		})
	case core.Cond:
		m.branch(x)
	case core.And, core.Or:
		m.short(x)
	case core.Call:
		m.arguments(x, x.A, nil)
	case core.In:
		m.get()
	case core.Out:
		m.with(x.A, m.put)
	case core.Then:
		m.with(x.A, func(int) { m.next = x.B })
	}
}

func (m *machine) load(address int) {
	if m.valid(address) {
		m.value = m.memory[address]
	}
}

func (m *machine) store(address, n int) {
	if m.valid(address) {
		m.memory[address] = n
	}
}

func (m *machine) operate(op, a, b int) {
	n, is := word.Do(api.Op(op), a, b)
	if !is {
		m.finish(api.Trap, 2)
	}
	m.value = n
}

// branch goes on with one of two parts. A statement may lack the second one.
func (m *machine) branch(x *api.Node) {
	m.with(x.A, func(condition int) {
		m.next = x.C
		if condition != 0 {
			m.next = x.B
		}
	})
}

// short evaluates the right part of an And or Or only if the left one does not tell the value.
func (m *machine) short(x *api.Node) {
	truth := func(n int) { m.value = number(n != 0) }
	m.with(x.A, func(left int) {
		truth(left)
		if m.value == number(x.Kind == core.And) {
			m.with(x.B, truth)
		}
	})
}

func number(is bool) int {
	if is {
		return 1
	}
	return 0
}

// arguments evaluates the arguments of a call, from an item of their list on, and then calls.
func (m *machine) arguments(x *api.Node, item int, l []int) {
	if item == none {
		m.call(m.program.Funcs[core.Find(m.program, x.Text)], l)
		return
	}
	i := m.program.Nodes[item]
	m.with(i.A, func(n int) { m.arguments(x, i.B, append(l, n)) })
}

func (m *machine) get() {
	m.value = -1
	if len(m.input) > 0 {
		m.value = int(m.input[0])
		m.input = m.input[1:]
	}
}

func (m *machine) put(n int) {
	m.value, _ = word.Do(api.Low, n, 0)
	m.result.Output = append(m.result.Output, byte(m.value))
}
