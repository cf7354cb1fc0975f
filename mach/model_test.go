package mach_test

import (
	"strings"
	"testing"

	"doppel/api"
	"doppel/mach"
	"doppel/sample"
	"doppel/word"
)

// model runs an image otherwise than the package does: each call is a call of Go's, with maps of its own; lines are told by their names.
type model struct {
	image     mach.Image
	registers [8]int
	result    int
	memory    map[int]int
	free      int
	deep      int
	input     string
	fuel      int
	r         api.Result
	done      map[string]int // how often each kind of line was done
}

// over is what ends a run within calls.
type over struct{}

// runs is what comes of a valid image with a main.
func (m *model) runs() (r api.Result) {
	defer func() {
		if e := recover(); e != nil {
			_ = e.(over)
		}
		r = m.r
	}()
	m.memory, m.free, m.done = map[int]int{}, m.image.Top, map[string]int{}
	for _, g := range m.image.Globals {
		m.memory[g.At] = g.Init
	}
	m.end(api.Exit, m.function("main", nil))
	return
}

func (m *model) end(end, code int) {
	m.r.End, m.r.Code = end, code
	panic(over{})
}

func (m *model) function(name string, arguments map[int]int) int {
	var o mach.Object
	for _, other := range m.image.Objects {
		if other.Name == name {
			o = other
		}
	}
	own := m.free
	if m.deep++; own+o.Frame > 4096 || m.deep > 200 {
		m.end(api.Full, 0)
	}
	m.free += o.Frame
	defer func() { m.free, m.deep = own, m.deep-1 }()
	slots, next := map[int]int{}, map[int]int{}
	for at := 0; ; at++ {
		if m.fuel == 0 {
			m.end(api.Spent, 0)
		}
		m.fuel--
		l, r := o.Lines[at], &m.registers
		name, _, _ := strings.Cut(table()[l.Op-1], " ")
		m.done[name]++
		switch name {
		case "fa":
			r[l.R] = own + l.N
		case "lds":
			r[l.R] = slots[l.N]
		case "sts":
			slots[l.N] = r[l.A]
		case "arg":
			next[l.N] = r[l.A]
		case "par":
			r[l.R] = arguments[l.N]
		case "call":
			m.result = m.function(l.Text, next)
			next = map[int]int{}
		case "jmp":
			at = l.N - 1
		case "bnz":
			if r[l.A] != 0 {
				at = l.N - 1
			}
		case "ret":
			return r[l.A]
		default:
			m.simple(name, l, r)
		}
	}
}

// simple does what needs nothing of the call.
func (m *model) simple(name string, l mach.Line, r *[8]int) {
	switch name {
	case "li":
		r[l.R] = l.N
	case "un":
		r[l.R], _ = word.Do(api.Op(l.N), r[l.A], 0)
	case "bin":
		n, is := word.Do(api.Op(l.N), r[l.A], r[l.B])
		if !is {
			m.end(api.Trap, 2)
		}
		r[l.R] = n
	case "mv":
		r[l.R] = r[l.A]
	case "ld", "st":
		if r[l.A] <= 0 || r[l.A] >= 4096 {
			m.end(api.Trap, 1)
		}
		if name == "ld" {
			r[l.R] = m.memory[r[l.A]]
		} else {
			m.memory[r[l.A]] = r[l.B]
		}
	case "res":
		r[l.R] = m.result
	case "getc":
		r[l.R] = -1
		if m.input != "" {
			r[l.R], m.input = int(m.input[0]), m.input[1:]
		}
	case "putc":
		m.r.Output = append(m.r.Output, byte(r[l.A]))
	}
}

// objectOf is a valid object of pseudo-random numbers, of functions with some names: it may call them.
func objectOf(n *sample.Numbers, name string, names []string) mach.Object {
	o := mach.Object{Name: name, Slots: n.Below(4), Frame: n.Below(4)}
	if n.Below(8) == 0 {
		o.Frame = n.Below(300)
	}
	if n.Below(8) == 0 {
		o.Slots = 1 + n.Below(4096)
	}
	many := 2 + n.Below(25)
	for len(o.Lines) < many {
		op := 1 + n.Below(18)
		switch last := len(o.Lines) == many-1; {
		case last:
			op = 16 + 2*n.Below(2)
		case op == 18 && len(o.Lines) < many/2 || o.Slots == 0 && (op == 8 || op == 9):
			op = 1
		}
		o.Lines = append(o.Lines, lineOf(n, o, op, many, names))
	}
	return o
}

// lineOf is a line of an operation. Most jumps lead on, if there is room.
func lineOf(n *sample.Numbers, o mach.Object, op, many int, names []string) mach.Line {
	l := mach.Line{Op: op}
	// Few registers are named often.
	r := func() int { return min(n.Below(8), n.Below(8)) }
	for _, part := range strings.Fields(table()[op-1])[1:] {
		switch part {
		case "R":
			l.R = r()
		case "A":
			l.A = r()
		case "B":
			l.B = r()
		case "Text":
			l.Text = names[n.Below(len(names))]
		}
	}
	switch op {
	case 1:
		l.N = n.Word()
	case 2:
		l.N = 20 + n.Below(4)
	case 3:
		l.N = 1 + n.Below(19)
	case 5:
		l.N = n.Below(o.Frame + 1)
	case 8, 9:
		l.N = min(n.Below(o.Slots), n.Below(o.Slots))
	case 10, 11:
		l.N = min(n.Below(6), n.Below(6))
	case 16, 17:
		l.N = min(len(o.Lines)+1+n.Below(4), n.Below(2*many), many-1)
	}
	return l
}

// imageOf is a valid image with a main, of pseudo-random numbers: many of its runs end before long.
func imageOf(seed int) mach.Image {
	n := &sample.Numbers{Seed: uint64(seed)}
	names := []string{"main", "f", "\xff\x80!", "object"}[:1+n.Below(4)]
	m := mach.Image{Top: 1 + n.Below(40)}
	if n.Below(8) == 0 {
		m.Top = 4096 - n.Below(200)
	}
	for range n.Below(4) {
		at := 1 + n.Below(m.Top)
		m.Globals = append(m.Globals, api.Global{Name: "g", At: at, Size: n.Below(m.Top - at + 1), Init: n.Word()})
	}
	for k, name := range names {
		m.Objects = append(m.Objects, objectOf(n, name, names))
		// main may stand anywhere.
		other := n.Below(k + 1)
		m.Objects[k], m.Objects[other] = m.Objects[other], m.Objects[k]
	}
	return m
}

// TestRuns holds that runs of pseudo-random images are those of the model, with many amounts of fuel.
func TestRuns(t *testing.T) {
	ends, done := map[[2]int]int{}, map[string]int{}
	putting := 0
	for seed := range 12_000 {
		m := imageOf(seed)
		if !mach.Right(m) {
			t.Fatal("not valid:", seed)
		}
		for _, fuel := range []int{0, 1, 2, 3, 5, 8, 13, 21, 40, 100, 2000} {
			input := "a\x00\xffb"[:fuel%5]
			other := &model{image: m, input: input, fuel: fuel}
			got, wanted := mach.Run(m, []byte(input), fuel), other.runs()
			if !sample.Same(got, wanted) {
				t.Fatalf("%d: with a fuel of %d: %s; wanted %s", seed, fuel, show(got), show(wanted))
			}
			if fuel == 2000 {
				ends[[2]int{got.End, min(max(got.Code, 0), 3)}]++
				putting += min(len(got.Output), 1)
				for name, often := range other.done {
					done[name] += often
				}
			}
		}
	}
	for _, end := range [][2]int{{api.Exit, 0}, {api.Exit, 3}, {api.Trap, 1}, {api.Trap, 2}, {api.Full, 0}, {api.Spent, 0}} {
		if ends[end] < 50 {
			t.Error("too few ends of a sort:", end, ends)
		}
	}
	for _, row := range table() {
		if name, _, _ := strings.Cut(row, " "); done[name] < 1000 {
			t.Error("too few lines of a kind:", name, done)
		}
	}
	if putting < 500 {
		t.Error("too few images that put anything out:", putting)
	}
}
