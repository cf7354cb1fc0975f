package code

import (
	"doppel/api"
	"doppel/word"
)

// mostFuel is what a run is given at most.
const mostFuel = 1_000_000

// call is a function that is running: its code, its next instruction, the address of its frame, the register of its caller that gets its result, and how many values were put aside ahead of it.
type call struct {
	code  []api.Instr
	at    int
	frame int
	dst   int
	aside int
}

// value is what a register was in the call that set it.
type value struct {
	register, word, call int
}

// machine is the state of a run. All calls share one list of registers: a call that sets one puts the value of another call aside until it ends. So a call costs no more than what it sets, though a function may have thousands of registers, and there may be a million calls.
type machine struct {
	unit      api.Unit
	places    map[string]int
	memory    [api.MaxWords]int
	free      int // the beginning of the next frame
	registers []int
	setters   []int // by registers: the call that set it, told by how many there were then
	aside     []value
	calls     []call
	input     []byte // what is not read yet
	fuel      int
	result    api.Result
}

// Run is what comes of a unit.
func Run(u api.Unit, input []byte, fuel int) api.Result {
	k := Find(u, "main")
	if k == none || u.Funcs[k].Params != 0 || !Right(u) {
		return api.Result{End: api.Spent}
	}
	m := &machine{unit: u, places: places(u), free: u.Top, input: input, fuel: min(max(fuel, 0), mostFuel)}
	m.room()
	m.fill()
	m.begin(k, none, nil)
	for m.result.End == 0 {
		m.step()
	}
	return m.result
}

// room makes as many registers as some function needs.
func (m *machine) room() {
	most := 0
	for _, f := range m.unit.Funcs {
		most = max(most, f.Regs)
	}
	m.registers, m.setters = make([]int, most), make([]int, most)
}

// fill puts the values of the globals into memory. One without words may stand behind the last word.
func (m *machine) fill() {
	for _, g := range m.unit.Globals {
		if g.At < len(m.memory) {
			m.memory[g.At] = g.Init
		}
	}
}

func (m *machine) finish(end, code int) { m.result.End, m.result.Code = end, code }

// begin begins a call of a function.
func (m *machine) begin(k, dst int, arguments []int) {
	f := &m.unit.Funcs[k]
	if f.Frame > api.MaxWords-m.free {
		m.finish(api.Full, 0)
		return
	}
	m.calls = append(m.calls, call{f.Code, 0, m.free, dst, len(m.aside)})
	m.free += f.Frame
	for register, n := range arguments {
		m.set(register, n)
	}
}

// leave ends the call that is running.
func (m *machine) leave(result int) {
	last := len(m.calls) - 1
	c := m.calls[last]
	m.calls = m.calls[:last]
	m.free = c.frame
	for _, v := range m.aside[c.aside:] {
		m.registers[v.register], m.setters[v.register] = v.word, v.call
	}
	m.aside = m.aside[:c.aside]
	switch {
	case last == 0:
		m.finish(api.Exit, result)
	case c.dst != none:
		m.set(c.dst, result)
	}
}

// get is a register of the call that is running: 0 if that has not set it.
func (m *machine) get(register int) int {
	if m.setters[register] != len(m.calls) {
		return 0
	}
	return m.registers[register]
}

func (m *machine) set(register, n int) {
	if setter := m.setters[register]; setter != len(m.calls) {
		m.aside = append(m.aside, value{register, m.registers[register], setter})
		m.setters[register] = len(m.calls)
	}
	m.registers[register] = n
}

// step does one instruction, or ends the run if there is no fuel for it.
func (m *machine) step() {
	if m.fuel == 0 {
		m.finish(api.Spent, 0)
		return
	}
	m.fuel--
	c := &m.calls[len(m.calls)-1]
	i := &c.code[c.at]
	c.at++
	switch i.Kind {
	case api.Const:
		m.set(i.Dst, i.N)
	case api.Unary, api.Binary:
		m.operate(i)
	case api.Copy:
		m.set(i.Dst, m.get(i.A))
	case api.Frame:
		m.set(i.Dst, c.frame+i.N)
	case api.Load, api.Store:
		m.access(i)
	case api.Call:
		m.call(i)
	case api.Getc:
		m.set(i.Dst, m.next())
	case api.Putc:
		low, _ := word.Do(api.Low, m.get(i.A), 0)
		m.result.Output = append(m.result.Output, byte(low))
	case api.Jump:
		c.at = i.To
	case api.Branch:
		c.at = i.Else
		if m.get(i.A) != 0 {
			c.at = i.To
		}
	case api.Return:
		m.leave(m.get(i.A))
	}
}

func (m *machine) operate(i *api.Instr) {
	n, is := word.Do(i.Op, m.get(i.A), m.get(i.B))
	if !is {
		m.finish(api.Trap, 2)
		return
	}
	m.set(i.Dst, n)
}

// access does a Load or a Store.
func (m *machine) access(i *api.Instr) {
	address := word.Plain(m.get(i.A))
	switch {
	case !within(address, 1, api.MaxWords-1):
		m.finish(api.Trap, 1)
	case i.Kind == api.Load:
		m.set(i.Dst, m.memory[address])
	default:
		m.memory[address] = m.get(i.B)
	}
}

func (m *machine) call(i *api.Instr) {
	l := arguments(i)
	var words [api.MaxParams]int
	for k, register := range l {
		words[k] = m.get(register)
	}
	m.begin(m.places[i.Text], i.Dst, words[:len(l)])
}

// next is the next byte of the input, or -1.
func (m *machine) next() int {
	if len(m.input) == 0 {
		return -1
	}
	b := m.input[0]
	m.input = m.input[1:]
	return int(b)
}
