package eval

import (
	"slices"

	"doppel/api"
	"doppel/core"
	"doppel/word"
)

// none stands where there is no node.
const none = -1

// How a statement ends: with what is left to be done, or by leaving that out up to the end of a loop or switch (broken), of a loop's turn (again), or of the function (given).
const (
	onward = iota
	broken
	again
	given
)

// task is what is left to be done, with the value of what was done before it, and the end of a statement that leaves out nothing from here on.
type task struct {
	stops int
	do    func(value int)
}

// call is a function that is running: its body, its registers, the address of its frame, and how many tasks are not its own. Only registers that are set are in the map: a function may have thousands of them, and there may be hundreds of thousands of calls.
type call struct {
	body      int
	registers map[int]int
	frame     int
	base      int
}

// machine is the state of a run. What is left to be done is a list of tasks, the next one last: more calls may be nested than Go's own stack has room for.
type machine struct {
	program core.Program
	places  places
	memory  [api.MaxWords]int
	free    int    // the beginning of the next frame
	input   []byte // what is not read yet
	fuel    int
	now     *call
	tasks   []task
	start   int // where the function that is running starts next, or none
	next    int // the node that is begun next, or none
	value   int // of the last expression
	end     int // of the last statement
	result  api.Result
}

func newMachine(p core.Program, input []byte, fuel int) *machine {
	m := &machine{program: p, places: placesOf(p), free: p.Top, input: input, fuel: fuel, start: none, next: none}
	for _, g := range p.Globals {
		m.memory[g.At] = g.Init
	}
	return m
}

// run runs a function until the run has ended.
func (m *machine) run(main core.Func) {
	m.push(onward, func(code int) { m.finish(api.Exit, code) })
	m.call(main, nil)
start:
	// A function starts at its body, and once more, at the label, with each goto.
	if m.start != none {
		m.resume(m.now.body, m.start)
		m.start = none
	}
	for m.result.End == 0 {
		m.step()
		if m.start != none {
			goto start
		}
	}
}

// step begins a node, or does the next task.
func (m *machine) step() {
	if m.next != none {
		m.begin(m.next)
		return
	}
	last := len(m.tasks) - 1
	t := m.tasks[last]
	m.tasks = m.tasks[:last]
	if m.end == onward || m.end == t.stops {
		m.end = onward
		t.do(m.value)
	}
}

// begin begins an expression or a statement.
func (m *machine) begin(n int) {
	m.next = none
	if !m.use() {
		return
	}
	if x := &m.program.Nodes[n]; x.Kind <= core.Then {
		m.expression(x)
	} else {
		m.statement(n, x)
	}
}

// use uses 1 of the fuel, and tells whether there was any.
func (m *machine) use() bool {
	if m.fuel == 0 {
		m.finish(api.Spent, 0)
		return false
	}
	m.fuel--
	return true
}

func (m *machine) finish(end, code int) { m.result.End, m.result.Code = end, code }

func (m *machine) push(stops int, do func(int)) { m.tasks = append(m.tasks, task{stops, do}) }

// with begins a node, and then does something with its value. Without a node, that is done at once.
func (m *machine) with(n int, do func(value int)) {
	m.push(onward, do)
	m.next = n
}

// call calls a function: its value is there when all of its tasks are done.
func (m *machine) call(f core.Func, arguments []int) {
	if f.Frame > api.MaxWords-m.free {
		m.finish(api.Full, 0)
		return
	}
	caller, frame := m.now, m.free
	m.push(given, func(int) { m.now, m.free = caller, frame })
	// A return leaves this out.
	m.push(onward, func(int) { m.value = 0 })
	m.now = &call{f.Body, map[int]int{}, frame, len(m.tasks)}
	for n, argument := range arguments {
		m.now.registers[n] = argument
	}
	m.free += f.Frame
	m.start = f.Body
}

// resume goes on at a statement, as if everything around it, up to an outer one, had been entered and had come to it.
func (m *machine) resume(outer, n int) {
	var around []int
	for at := n; at != outer; {
		at = m.places.of[at].outer
		around = append(around, at)
	}
	for _, at := range slices.Backward(around) {
		m.enter(&m.program.Nodes[at])
	}
	m.next = n
}

// valid tells whether an address is one; if not, that is a trap.
func (m *machine) valid(address int) bool {
	n := word.Plain(address)
	is := 1 <= n && n < api.MaxWords
	if !is {
		m.finish(api.Trap, 1)
	}
	return is
}
