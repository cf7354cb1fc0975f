package code_test

import (
	"math/rand"

	"doppel/api"
	"doppel/word"
)

// model runs a unit otherwise than the package does: each call is a call of Go's, with a list of registers of its own.
type model struct {
	unit   api.Unit
	memory map[int]int
	free   int
	input  []byte
	fuel   int
	r      api.Result
}

// over is what ends a run within calls.
type over struct{}

func modelRun(u api.Unit, input string, fuel int) (r api.Result) {
	m := &model{unit: u, memory: map[int]int{}, free: u.Top, input: []byte(input), fuel: fuel}
	defer func() {
		if e := recover(); e != nil {
			_ = e.(over)
		}
		r = m.r
	}()
	for _, g := range u.Globals {
		m.memory[g.At] = g.Init
	}
	code := m.function("main", nil)
	m.end(api.Exit, code)
	return
}

func (m *model) end(end, code int) {
	m.r.End, m.r.Code = end, code
	panic(over{})
}

func (m *model) function(name string, arguments []int) int {
	var f api.Func
	for _, g := range m.unit.Funcs {
		if g.Name == name {
			f = g
		}
	}
	own := m.free
	if own+f.Frame > 4096 {
		m.end(api.Full, 0)
	}
	m.free += f.Frame
	defer func() { m.free = own }()
	l := make([]int, f.Regs)
	copy(l, arguments)
	at := 0
	for {
		if m.fuel == 0 {
			m.end(api.Spent, 0)
		}
		m.fuel--
		i := f.Code[at]
		at++
		switch i.Kind {
		case api.Jump:
			at = i.To
		case api.Branch:
			if at = i.To; l[i.A] == 0 {
				at = i.Else
			}
		case api.Return:
			return l[i.A]
		default:
			m.simple(i, l, own)
		}
	}
}

// simple does what goes on at the next instruction.
func (m *model) simple(i api.Instr, l []int, own int) {
	switch i.Kind {
	case api.Const:
		l[i.Dst] = i.N
	case api.Unary:
		l[i.Dst], _ = word.Do(i.Op, l[i.A], 0)
	case api.Binary:
		n, is := word.Do(i.Op, l[i.A], l[i.B])
		if !is {
			m.end(api.Trap, 2)
		}
		l[i.Dst] = n
	case api.Copy:
		l[i.Dst] = l[i.A]
	case api.Frame:
		l[i.Dst] = own + i.N
	case api.Load:
		l[i.Dst] = m.memory[m.address(l[i.A])]
	case api.Store:
		m.memory[m.address(l[i.A])] = l[i.B]
	case api.Call:
		var arguments []int
		for _, a := range i.Args[:i.N] {
			arguments = append(arguments, l[a])
		}
		if n := m.function(i.Text, arguments); i.Dst >= 0 {
			l[i.Dst] = n
		}
	case api.Getc:
		l[i.Dst] = -1
		if len(m.input) > 0 {
			l[i.Dst], m.input = int(m.input[0]), m.input[1:]
		}
	case api.Putc:
		m.r.Output = append(m.r.Output, byte(l[i.A]))
	}
}

func (m *model) address(n int) int {
	if n <= 0 || n >= 4096 {
		m.end(api.Trap, 1)
	}
	return n
}

// maker makes units from pseudo-random numbers: the same one from the same number.
type maker struct {
	*rand.Rand
	params []int // of each function
}

func nameOf(k int) string {
	if k == 0 {
		return "main"
	}
	return "f" + number(k)
}

// made is a valid unit, with a main.
func made(seed int64) api.Unit {
	m := &maker{Rand: rand.New(rand.NewSource(seed)), params: []int{0}}
	for range m.Intn(4) {
		m.params = append(m.params, m.Intn(api.MaxParams+1))
	}
	u := api.Unit{Top: 1 + m.Intn(40)}
	if m.Intn(8) == 0 {
		u.Top = 4096 - m.Intn(200)
	}
	for range m.Intn(4) {
		at := 1 + m.Intn(u.Top)
		u.Globals = append(u.Globals, api.Global{Name: "g", At: at, Size: m.Intn(u.Top - at + 1), Init: m.word()})
	}
	for k, params := range m.params {
		f := api.Func{Name: nameOf(k), Params: params, Regs: params + 1 + m.Intn(8), Frame: m.Intn(4)}
		if m.Intn(8) == 0 {
			f.Frame = m.Intn(300)
		}
		n := 2 + m.Intn(25)
		for range n - 1 {
			f.Code = append(f.Code, m.instruction(f, 1+m.Intn(api.Return), n))
		}
		f.Code = append(f.Code, m.instruction(f, api.Jump+m.Intn(3), n))
		u.Funcs = append(u.Funcs, f)
	}
	m.Shuffle(len(u.Funcs), func(a, b int) { u.Funcs[a], u.Funcs[b] = u.Funcs[b], u.Funcs[a] })
	return u
}

// word is mostly a small one, an address often.
func (m *maker) word() int {
	switch m.Intn(8) {
	case 0:
		return int(int32(m.Uint32()))
	case 1:
		return []int{-1 << 31, 1<<31 - 1, 4095, 4096, -256, 321}[m.Intn(6)]
	}
	return m.Intn(60) - 4
}

// instruction is one of a kind, or a Const in place of some that would end most runs.
func (m *maker) instruction(f api.Func, kind, n int) api.Instr {
	r := func() int { return m.Intn(f.Regs) }
	// Most jumps lead onward, if there is room.
	to := func() int { return min(len(f.Code)+1+m.Intn(4), m.Intn(2*n), n-1) }
	switch kind {
	case api.Unary:
		return unary(api.Neg+api.Op(m.Intn(4)), r(), r())
	case api.Binary:
		return binary(api.Add+api.Op(m.Intn(19)), r(), r(), r())
	case api.Copy:
		return copied(r(), r())
	case api.Frame:
		return frame(r(), m.Intn(f.Frame+1))
	case api.Load:
		return load(r(), r())
	case api.Store:
		return store(r(), r())
	case api.Call:
		k := m.Intn(len(m.params))
		i := call(r()-m.Intn(2), nameOf(k))
		for i.N < m.params[k] {
			i.Args[i.N] = r()
			i.N++
		}
		return i
	case api.Getc:
		return getc(r())
	case api.Putc:
		return putc(r())
	case api.Jump:
		return jump(to())
	case api.Branch:
		return branch(r(), to(), to())
	case api.Return:
		if len(f.Code) >= n/2 {
			return give(r())
		}
	}
	return constant(r(), m.word())
}
