package lower

import (
	"doppel/api"
	"doppel/code"
	"doppel/core"
)

// none stands where a node has no part, where a call leaves no result, and for a label that there is not.
const none = -1

// mostIdle is how many nodes may be begun between two instructions. Core uses fuel for each node: without a limit, a run could use thousands of times as much there as here.
const mostIdle = 500

// surroundings are what a statement is in: the labels of a break and of a continue, and the innermost switch.
type surroundings struct {
	broken, again int
	choice        *choice
}

// choice is a switch: the labels of its cases, by their words, and that of its default, or of its end without one.
type choice struct {
	cases     map[int]int
	otherwise int
}

// maker is how far a function's code is made. Until all of it is, instructions lead to labels: what stands there may not be made yet. What may not be it leaves by a panic, which function catches: errno then tells why.
type maker struct {
	program core.Program
	made    api.Func
	within  surroundings
	labels  map[int]int    // where each label stands, or none
	names   map[string]int // the labels that the source names
	idle    int            // nodes begun since the last instruction
	errno   api.Errno
}

// function is the code of a function of a program that is Right. What that lets pass may still lack a label or a loop, if core.Of did not make it.
func function(p core.Program, f core.Func) (made api.Func, errno api.Errno) {
	m := &maker{
		program: p,
		made:    api.Func{Name: f.Name, Params: f.Params, Regs: f.Regs, Frame: f.Frame},
		within:  surroundings{broken: none, again: none},
		labels:  map[int]int{none: none},
		names:   map[string]int{},
		errno:   api.ErrArg,
	}
	defer func() {
		if recover() != nil {
			made, errno = api.Func{}, m.errno
		}
	}()
	m.statement(f.Body)
	m.give(m.result(constant(0)))
	m.lead()
	if !code.RightFunc(m.made) {
		return api.Func{}, api.ErrArg
	}
	return m.made, api.OK
}

// need fails unless there is room.
func (m *maker) need(room bool) {
	if !room {
		m.errno = api.ErrLong
		panic(m.errno)
	}
}

// begin begins a node. Where many of them need no instruction, they get a jump to the next one.
func (m *maker) begin() {
	m.idle++
	if m.idle == mostIdle {
		next := m.label()
		m.jump(next)
		m.here(next)
	}
}

func (m *maker) add(i api.Instr) {
	m.need(len(m.made.Code) < api.MaxCode)
	m.made.Code = append(m.made.Code, i)
	m.idle = 0
}

// register is a new register.
func (m *maker) register() int {
	m.need(m.made.Regs < api.MaxRegs)
	m.made.Regs++
	return m.made.Regs - 1
}

// set adds an instruction that sets a register.
func (m *maker) set(register int, i api.Instr) {
	i.Dst = register
	m.add(i)
}

// result adds an instruction that sets a new register.
func (m *maker) result(i api.Instr) int {
	register := m.register()
	m.set(register, i)
	return register
}

func (m *maker) give(register int) {
	i := code.Plain(api.Return)
	i.A = register
	m.add(i)
}

// label is a new label, which stands nowhere yet.
func (m *maker) label() int {
	n := len(m.labels)
	m.labels[n] = none
	return n
}

// named is the label of a name. A goto may come ahead of it.
func (m *maker) named(name string) int {
	n, is := m.names[name]
	if !is {
		n = m.label()
		m.names[name] = n
	}
	return n
}

// here lets a label stand at the next instruction.
func (m *maker) here(label int) { m.labels[label] = len(m.made.Code) }

func (m *maker) jump(to int) {
	i := code.Plain(api.Jump)
	i.To = to
	m.add(i)
}

func (m *maker) branch(register, to, otherwise int) {
	i := code.Plain(api.Branch)
	i.A, i.To, i.Else = register, to, otherwise
	m.add(i)
}

// alternatives does one of two parts: the first one if a register is not 0. There may be no second one.
func (m *maker) alternatives(register int, first, second func()) {
	to, otherwise := m.label(), m.label()
	m.branch(register, to, otherwise)
	m.here(to)
	first()
	if second == nil {
		m.here(otherwise)
		return
	}
	end := m.label()
	m.jump(end)
	m.here(otherwise)
	second()
	m.here(end)
}

// lead lets instructions lead to where their labels stand.
func (m *maker) lead() {
	for k := range m.made.Code {
		switch i := &m.made.Code[k]; i.Kind {
		case api.Branch:
			i.Else = m.labels[i.Else]
			fallthrough
		case api.Jump:
			i.To = m.labels[i.To]
		}
	}
}
