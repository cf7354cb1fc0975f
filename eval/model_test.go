package eval_test

import (
	"testing"

	"doppel/api"
	"doppel/core"
	"doppel/tree"
	"doppel/word"
)

// What a line of a model does. Its operands are on a stack.
const (
	lineUse = iota // uses 1 of the fuel
	lineNum
	lineReg
	lineFrame
	lineLoad
	lineStore
	lineSet
	lineOne
	lineTwo
	linePop
	lineJump
	lineUnless // jumps if the operand is 0
	lineSwitch
	lineCall
	lineIn
	lineOut
	lineGive
)

// line is a line of a model.
type line struct {
	what, n, to int
	cases       map[int]int
}

// calling is a function of a model that is running.
type calling struct {
	back, frame, size int
	registers         []int
}

// model runs a program otherwise than the package does: written as a list of lines, in which loops, gotos and switches are jumps to lines.
type model struct {
	t         *testing.T
	program   core.Program
	lines     []line
	functions []int // where they begin
	// Of the function that is being written.
	labels    map[string]int
	gotos     map[int]string
	breaks    [][]int
	continues [][]int
	switches  []line
}

func newModel(t *testing.T, p core.Program) *model {
	m := &model{t: t, program: p}
	for _, f := range p.Funcs {
		m.labels, m.gotos = map[string]int{}, map[int]string{}
		m.functions = append(m.functions, len(m.lines))
		m.statement(f.Body)
		m.line(lineNum, 0)
		m.line(lineGive, 0)
		for at, label := range m.gotos {
			m.lines[at].to = m.labels[label]
		}
	}
	return m
}

// line writes a line, and is its number.
func (m *model) line(what, n int) int {
	m.lines = append(m.lines, line{what: what, n: n, to: -1})
	return len(m.lines) - 1
}

// here lets lines jump to the next line.
func (m *model) here(l ...int) {
	for _, at := range l {
		m.lines[at].to = len(m.lines)
	}
}

func (m *model) jump(to int) { m.lines[m.line(lineJump, 0)].to = to }

func (m *model) expressions(l ...int) {
	for _, n := range l {
		m.expression(n)
	}
}

func (m *model) expression(n int) {
	x := m.program.Nodes[n]
	m.line(lineUse, 0)
	switch x.Kind {
	case core.Num:
		m.line(lineNum, x.N)
	case core.Reg:
		m.line(lineReg, x.N)
	case core.Frame:
		m.line(lineFrame, x.N)
	case core.Load:
		m.expressions(x.A)
		m.line(lineLoad, 0)
	case core.Store:
		m.expressions(x.A, x.B)
		m.line(lineStore, 0)
	case core.Set:
		m.expressions(x.A)
		m.line(lineSet, x.N)
	case core.One:
		m.expressions(x.A)
		m.line(lineOne, x.N)
	case core.Two:
		m.expressions(x.A, x.B)
		m.line(lineTwo, x.N)
	case core.Cond, core.And, core.Or:
		m.chosen(x)
	case core.Call:
		m.expressions(core.List(m.program, x.A)...)
		m.line(lineCall, core.Find(m.program, x.Text))
	case core.In:
		m.line(lineIn, 0)
	case core.Out:
		m.expressions(x.A)
		m.line(lineOut, 0)
	case core.Then:
		m.expressions(x.A)
		m.line(linePop, 0)
		m.expressions(x.B)
	default:
		m.t.Fatal("an expression of the kind", x.Kind)
	}
}

func (m *model) chosen(x api.Node) {
	m.expression(x.A)
	no := m.line(lineUnless, 0)
	truth := func(n int) {
		m.expression(n)
		m.line(lineOne, int(api.Zero))
		m.line(lineOne, int(api.Zero))
	}
	switch x.Kind {
	case core.Cond:
		m.expression(x.B)
	case core.And:
		truth(x.B)
	case core.Or:
		m.line(lineNum, 1)
	}
	end := m.line(lineJump, 0)
	m.here(no)
	switch x.Kind {
	case core.Cond:
		m.expression(x.C)
	case core.And:
		m.line(lineNum, 0)
	case core.Or:
		truth(x.B)
	}
	m.here(end)
}

func (m *model) effect(n int) {
	if n != -1 {
		m.expression(n)
		m.line(linePop, 0)
	}
}

func (m *model) statement(n int) {
	x := m.program.Nodes[n]
	if x.Kind == tree.Label {
		m.labels[x.Text] = len(m.lines)
	} else if x.Kind == tree.Case {
		m.switches[len(m.switches)-1].cases[x.N] = len(m.lines)
	} else if x.Kind == tree.Default {
		m.switches[len(m.switches)-1].to = len(m.lines)
	}
	m.line(lineUse, 0)
	switch x.Kind {
	case tree.Do:
		m.effect(x.A)
	case tree.Label, tree.Case, tree.Default:
		m.statement(x.A)
	case tree.If:
		m.either(x)
	case tree.While, tree.DoWhile, tree.For:
		m.loop(x)
	case tree.Break:
		m.leave(m.breaks)
	case tree.Continue:
		m.leave(m.continues)
	case tree.Give:
		if x.A == -1 {
			m.line(lineNum, 0)
		} else {
			m.expression(x.A)
		}
		m.line(lineGive, 0)
	case tree.Goto:
		m.line(lineUse, 0)
		m.gotos[m.line(lineJump, 0)] = x.Text
	case tree.Switch:
		m.choose(x)
	case tree.Block:
		for _, item := range core.List(m.program, x.A) {
			m.statement(item)
		}
	case tree.Empty:
	default:
		m.t.Fatal("a statement of the kind", x.Kind)
	}
}

func (m *model) either(x api.Node) {
	m.expression(x.A)
	no := m.line(lineUnless, 0)
	m.statement(x.B)
	end := m.line(lineJump, 0)
	m.here(no)
	if x.C != -1 {
		m.statement(x.C)
	}
	m.here(end)
}

// leave jumps out of the innermost one of what may be left.
func (m *model) leave(l [][]int) {
	l[len(l)-1] = append(l[len(l)-1], m.line(lineJump, 0))
}

// last takes away the last one of some lists.
func last(l *[][]int) []int {
	n := len(*l) - 1
	end := (*l)[n]
	*l = (*l)[:n]
	return end
}

func (m *model) loop(x api.Node) {
	condition, after, inner := x.A, -1, x.B
	if x.Kind == tree.For {
		m.effect(x.A)
		condition, after, inner = x.B, x.C, x.D
	}
	first := -1
	if x.Kind == tree.DoWhile {
		first = m.line(lineJump, 0)
	}
	test := len(m.lines)
	if condition == -1 {
		m.line(lineUse, 0)
		m.line(lineNum, 1)
	} else {
		m.expression(condition)
	}
	end := m.line(lineUnless, 0)
	if first != -1 {
		m.here(first)
	}
	m.breaks, m.continues = append(m.breaks, nil), append(m.continues, nil)
	m.statement(inner)
	m.here(last(&m.continues)...)
	m.effect(after)
	m.jump(test)
	m.here(append(last(&m.breaks), end)...)
}

func (m *model) choose(x api.Node) {
	m.expression(x.A)
	at := m.line(lineSwitch, 0)
	m.breaks = append(m.breaks, nil)
	m.switches = append(m.switches, line{to: -1, cases: map[int]int{}})
	for _, item := range core.List(m.program, m.program.Nodes[x.B].A) {
		m.statement(item)
	}
	s := m.switches[len(m.switches)-1]
	m.switches = m.switches[:len(m.switches)-1]
	m.here(last(&m.breaks)...)
	if s.to == -1 {
		s.to = len(m.lines)
	}
	m.lines[at].to, m.lines[at].cases = s.to, s.cases
}

// running is the state of a model.
type running struct {
	*model
	memory  [4096]int
	free    int
	input   []byte
	calls   []calling
	values  []int
	at      int
	outcome api.Result
}

// run is what comes of the program. The fuel is 0 to 10^6.
func (m *model) run(input string, fuel int) api.Result {
	r := &running{model: m, free: m.program.Top, input: []byte(input)}
	for _, g := range m.program.Globals {
		r.memory[g.At] = g.Init
	}
	r.call(core.Find(m.program, "main"))
	for r.outcome.End == 0 {
		l := m.lines[r.at]
		r.at++
		switch {
		case l.what != lineUse:
			r.line(l)
		case fuel == 0:
			r.ended(api.Spent, 0)
		default:
			fuel--
		}
	}
	return r.outcome
}

func (r *running) ended(end, code int) { r.outcome.End, r.outcome.Code = end, code }

func (r *running) pop() int {
	n := r.values[len(r.values)-1]
	r.values = r.values[:len(r.values)-1]
	return n
}

func (r *running) push(n int) { r.values = append(r.values, n) }

func (r *running) call(k int) {
	f := r.program.Funcs[k]
	c := calling{back: r.at, frame: r.free, size: f.Frame, registers: make([]int, f.Regs)}
	copy(c.registers, r.values[len(r.values)-f.Params:])
	r.values = r.values[:len(r.values)-f.Params]
	r.calls = append(r.calls, c)
	r.free += f.Frame
	r.at = r.functions[k]
	if r.free > 4096 {
		r.ended(api.Full, 0)
	}
}

func (r *running) give() {
	c := r.calls[len(r.calls)-1]
	r.calls = r.calls[:len(r.calls)-1]
	r.at = c.back
	r.free -= c.size
	if len(r.calls) == 0 {
		r.ended(api.Exit, r.pop())
	}
}

// word is the word at an address, or another one with a trap.
func (r *running) word(address int) *int {
	if address < 1 || address > 4095 {
		r.ended(api.Trap, 1)
		return new(int)
	}
	return &r.memory[address]
}

func (r *running) line(l line) {
	now := r.calls[len(r.calls)-1]
	switch l.what {
	case lineNum:
		r.push(l.n)
	case lineReg:
		r.push(now.registers[l.n])
	case lineFrame:
		r.push(now.frame + l.n)
	case lineLoad:
		r.push(*r.word(r.pop()))
	case lineStore:
		n := r.pop()
		*r.word(r.pop()) = n
		r.push(n)
	case lineSet:
		now.registers[l.n] = r.pop()
		r.push(now.registers[l.n])
	case lineOne:
		n, _ := word.Do(api.Op(l.n), r.pop(), 0)
		r.push(n)
	case lineTwo:
		b := r.pop()
		n, is := word.Do(api.Op(l.n), r.pop(), b)
		if !is {
			r.ended(api.Trap, 2)
		}
		r.push(n)
	case linePop:
		r.pop()
	default:
		r.control(l)
	}
}

func (r *running) control(l line) {
	switch l.what {
	case lineJump:
		r.at = l.to
	case lineUnless:
		if r.pop() == 0 {
			r.at = l.to
		}
	case lineSwitch:
		to, is := l.cases[r.pop()]
		if !is {
			to = l.to
		}
		r.at = to
	case lineCall:
		r.call(l.n)
	case lineGive:
		r.give()
	case lineIn:
		n := -1
		if len(r.input) > 0 {
			n = int(r.input[0])
			r.input = r.input[1:]
		}
		r.push(n)
	case lineOut:
		n := r.pop() & 255
		r.outcome.Output = append(r.outcome.Output, byte(n))
		r.push(n)
	}
}
