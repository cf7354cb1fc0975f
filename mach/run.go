package mach

import (
	"doppel/api"
	"doppel/word"
)

// mostFuel is what a run is given at most.
const mostFuel = 1_000_000

// call is a function that is running: its object, its next line, the beginning of its frame, its arguments, and those for its next call.
type call struct {
	object, at  int
	frame       int
	given, next [api.MaxParams]int
}

// machine is the state of a run.
type machine struct {
	objects   []Object
	callees   [][]int // for each line of each object
	memory    [api.MaxWords]int
	free      int // the beginning of the next frame
	registers [registers]int
	returned  int // the result of the function that returned last
	calls     []call
	slots     [api.MaxDeep][]int // of each call, up to the last one that it has set: all behind are 0
	input     []byte             // what is not read yet
	fuel      int
	result    api.Result
}

// Run is what comes of an image.
func Run(image Image, input []byte, fuel int) api.Result {
	main, is := places(image)["main"]
	if !is || !Right(image) {
		return api.Result{End: api.Spent}
	}
	m := &machine{objects: image.Objects, callees: callees(image), free: image.Top, input: input, fuel: min(max(fuel, 0), mostFuel)}
	m.fill(image.Globals)
	m.begin(main, [api.MaxParams]int{})
	for m.result.End == 0 {
		m.step()
	}
	return m.result
}

// callees is, for each line of each object that is a call, the object that it calls: a name may be long, and be called often.
func callees(m Image) [][]int {
	at := places(m)
	all := make([][]int, len(m.Objects))
	for k, o := range m.Objects {
		all[k] = make([]int, len(o.Lines))
		for n, l := range o.Lines {
			if l.Op == Call {
				all[k][n] = at[l.Text]
			}
		}
	}
	return all
}

// fill puts the values of the globals into memory. One without words may stand behind the last word.
func (m *machine) fill(globals []api.Global) {
	for _, g := range globals {
		if g.At < len(m.memory) {
			m.memory[g.At] = g.Init
		}
	}
}

func (m *machine) finish(end, code int) { m.result.End, m.result.Code = end, code }

// begin begins a call of a function.
func (m *machine) begin(k int, arguments [api.MaxParams]int) {
	o := &m.objects[k]
	if len(m.calls) == api.MaxDeep || o.Frame > api.MaxWords-m.free {
		m.finish(api.Full, 0)
		return
	}
	slots := &m.slots[len(m.calls)]
	*slots = (*slots)[:0]
	m.calls = append(m.calls, call{object: k, frame: m.free, given: arguments})
	m.free += o.Frame
}

// leave ends the call that is running.
func (m *machine) leave(result int) {
	last := len(m.calls) - 1
	m.free, m.returned = m.calls[last].frame, result
	m.calls = m.calls[:last]
	if last == 0 {
		m.finish(api.Exit, result)
	}
}

// step does one line, or ends the run if there is no fuel for it.
func (m *machine) step() {
	if m.fuel == 0 {
		m.finish(api.Spent, 0)
		return
	}
	m.fuel--
	c, r := &m.calls[len(m.calls)-1], &m.registers
	l := &m.objects[c.object].Lines[c.at]
	c.at++
	switch l.Op {
	case Li:
		r[l.R] = l.N
	case Un, Bin:
		m.operate(l)
	case Mv:
		r[l.R] = r[l.A]
	case Fa:
		r[l.R] = c.frame + l.N
	case Ld, St:
		m.access(l)
	case Lds:
		r[l.R] = m.slot(l.N)
	case Sts:
		m.setSlot(l.N, r[l.A])
	case Arg:
		c.next[l.N] = r[l.A]
	case Par:
		r[l.R] = c.given[l.N]
	case Call:
		m.call(c)
	case Res:
		r[l.R] = m.returned
	case Getc:
		r[l.R] = m.next()
	case Putc:
		m.result.Output = append(m.result.Output, byte(r[l.A]))
	case Jmp:
		c.at = l.N
	case Bnz:
		if r[l.A] != 0 {
			c.at = l.N
		}
	case Ret:
		m.leave(r[l.A])
	}
}

func (m *machine) operate(l *Line) {
	n, is := word.Do(api.Op(l.N), m.registers[l.A], m.registers[l.B])
	if !is {
		m.finish(api.Trap, 2)
		return
	}
	m.registers[l.R] = n
}

// access does an ld or an st.
func (m *machine) access(l *Line) {
	address := word.Plain(m.registers[l.A])
	switch {
	case !within(address, 1, api.MaxWords-1):
		m.finish(api.Trap, 1)
	case l.Op == Ld:
		m.registers[l.R] = m.memory[address]
	default:
		m.memory[address] = m.registers[l.B]
	}
}

// slot is the word in a slot of the call that is running.
func (m *machine) slot(n int) int {
	slots := m.slots[len(m.calls)-1]
	if n >= len(slots) {
		return 0
	}
	return slots[n]
}

func (m *machine) setSlot(n, value int) {
	slots := &m.slots[len(m.calls)-1]
	if more := n + 1 - len(*slots); more > 0 {
		*slots = append(*slots, make([]int, more)...)
	}
	(*slots)[n] = value
}

// call does the call that stands just ahead of the next line.
func (m *machine) call(c *call) {
	arguments := c.next
	c.next = [api.MaxParams]int{}
	m.begin(m.callees[c.object][c.at-1], arguments)
}

// next is the next byte of the input, or -1.
func (m *machine) next() int {
	if len(m.input) == 0 {
		return -1
	}
	b := m.input[0]
	m.input = m.input[1:]
	return int(b)
}
