package sample

import (
	"doppel/api"
	"doppel/word"
)

// model runs a unit otherwise than package code does: each call is a call of Go's, with a list of registers of its own.
type model struct {
	unit   api.Unit
	watch  func(f api.Func, at int, registers []int)
	memory map[int]int
	free   int
	input  []byte
	fuel   int
	r      api.Result
}

// over is what ends a run within calls.
type over struct{}

// Run is what comes of a valid unit with a main. Each instruction is shown to watch just before it is done, with the registers as they are then.
func Run(u api.Unit, input string, fuel int, watch func(f api.Func, at int, registers []int)) (r api.Result) {
	m := &model{unit: u, watch: watch, memory: map[int]int{}, free: u.Top, input: []byte(input), fuel: fuel}
	defer func() {
		if e := recover(); e != nil {
			_ = e.(over)
		}
		r = m.r
	}()
	for _, g := range u.Globals {
		m.memory[g.At] = g.Init
	}
	m.end(api.Exit, m.function("main", nil))
	return
}

func (m *model) end(end, code int) {
	m.r.End, m.r.Code = end, code
	panic(over{})
}

func (m *model) function(name string, arguments []int) int {
	var f api.Func
	for _, g := range m.unit.Funcs {
		if g.Name == name {
			f = g
		}
	}
	own := m.free
	if own+f.Frame > 4096 {
		m.end(api.Full, 0)
	}
	m.free += f.Frame
	defer func() { m.free = own }()
	l := make([]int, f.Regs)
	copy(l, arguments)
	at := 0
	for {
		if m.fuel == 0 {
			m.end(api.Spent, 0)
		}
		m.fuel--
		m.watch(f, at, l)
		i := f.Code[at]
		at++
		switch i.Kind {
		case api.Jump:
			at = i.To
		case api.Branch:
			if at = i.To; l[i.A] == 0 {
				at = i.Else
			}
		case api.Return:
			return l[i.A]
		default:
			m.simple(i, l, own)
		}
	}
}

// simple does what goes on at the next instruction.
func (m *model) simple(i api.Instr, l []int, own int) {
	switch i.Kind {
	case api.Const:
		l[i.Dst] = i.N
	case api.Unary:
		l[i.Dst], _ = word.Do(i.Op, l[i.A], 0)
	case api.Binary:
		n, is := word.Do(i.Op, l[i.A], l[i.B])
		if !is {
			m.end(api.Trap, 2)
		}
		l[i.Dst] = n
	case api.Copy:
		l[i.Dst] = l[i.A]
	case api.Frame:
		l[i.Dst] = own + i.N
	case api.Load:
		l[i.Dst] = m.memory[m.address(l[i.A])]
	case api.Store:
		m.memory[m.address(l[i.A])] = l[i.B]
	case api.Call:
		var arguments []int
		for _, a := range i.Args[:i.N] {
			arguments = append(arguments, l[a])
		}
		if n := m.function(i.Text, arguments); i.Dst >= 0 {
			l[i.Dst] = n
		}
	case api.Getc:
		l[i.Dst] = -1
		if len(m.input) > 0 {
			l[i.Dst], m.input = int(m.input[0]), m.input[1:]
		}
	case api.Putc:
		m.r.Output = append(m.r.Output, byte(l[i.A]))
	}
}

func (m *model) address(n int) int {
	if n <= 0 || n >= 4096 {
		m.end(api.Trap, 1)
	}
	return n
}
