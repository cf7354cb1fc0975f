package lower

import (
	"doppel/api"
	"doppel/code"
	"doppel/core"
)

// Instructions that set a register, which is not in them yet.

func constant(n int) api.Instr {
	i := code.Plain(api.Const)
	i.N = n
	return i
}

func unary(op api.Op, a int) api.Instr {
	i := code.Plain(api.Unary)
	i.Op, i.A = op, a
	return i
}

func binary(op api.Op, a, b int) api.Instr {
	i := code.Plain(api.Binary)
	i.Op, i.A, i.B = op, a, b
	return i
}

func copied(a int) api.Instr {
	i := code.Plain(api.Copy)
	i.A = a
	return i
}

func frame(n int) api.Instr {
	i := code.Plain(api.Frame)
	i.N = n
	return i
}

func load(address int) api.Instr {
	i := code.Plain(api.Load)
	i.A = address
	return i
}

// value makes an expression of which the value is used.
func (m *maker) value(n int) int { return m.expression(n, true) }

// effect makes an expression of which the value is not used, if there is one.
func (m *maker) effect(n int) {
	if n != none {
		m.expression(n, false)
	}
}

// expression makes an expression, and is the register of its value, if that is used. Nothing sets that register again, so it keeps the value whatever is evaluated behind the expression.
func (m *maker) expression(n int, used bool) int {
	m.begin()
	x := m.program.Nodes[n]
	switch x.Kind {
	case core.Num:
		return m.result(constant(x.N))
	case core.Reg:
		return m.result(copied(x.N))
	case core.Frame:
		return m.result(frame(x.N))
	case core.Load:
		return m.result(load(m.value(x.A)))
	case core.Store:
		return m.store(m.value(x.A), m.value(x.B))
	case core.Set:
		from := m.value(x.A)
		m.set(x.N, copied(from))
		return from
	case core.One:
		return m.result(unary(api.Op(x.N), m.value(x.A)))
	case core.Two:
		return m.result(binary(api.Op(x.N), m.value(x.A), m.value(x.B)))
	case core.Cond, core.And, core.Or:
		return m.chosen(x)
	case core.Call:
		return m.call(x, used)
	case core.In:
		return m.result(code.Plain(api.Getc))
	case core.Out:
		return m.out(m.value(x.A), used)
	case core.Then:
		m.effect(x.A)
		return m.expression(x.B, used)
	}
	return none
}

func (m *maker) store(address, from int) int {
	i := code.Plain(api.Store)
	i.A, i.B = address, from
	m.add(i)
	return from
}

// chosen makes an expression of which only some parts are evaluated: both alternatives set the register of its value.
func (m *maker) chosen(x api.Node) int {
	condition, result := m.value(x.A), m.register()
	part := func(n int) func() {
		return func() { m.set(result, copied(m.value(n))) }
	}
	truth := func() { m.set(result, unary(api.Zero, m.result(unary(api.Zero, m.value(x.B))))) }
	known := func(n int) func() {
		return func() { m.set(result, constant(n)) }
	}
	switch x.Kind {
	case core.And:
		m.alternatives(condition, truth, known(0))
	case core.Or:
		m.alternatives(condition, known(1), truth)
	default:
		m.alternatives(condition, part(x.B), part(x.C))
	}
	return result
}

func (m *maker) call(x api.Node, used bool) int {
	var l []int
	for _, argument := range core.List(m.program, x.A) {
		l = append(l, m.value(argument))
	}
	i := code.Plain(api.Call)
	i.Text, i.N = x.Text, len(l)
	copy(i.Args[:], l)
	if used {
		return m.result(i)
	}
	m.add(i)
	return none
}

// out puts out a byte, which is the value of that.
func (m *maker) out(register int, used bool) int {
	i := code.Plain(api.Putc)
	i.A = register
	m.add(i)
	if used {
		return m.result(unary(api.Low, register))
	}
	return none
}
