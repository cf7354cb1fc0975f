package core

import (
	"strconv"
	"strings"
)

// printer is what is written of a program. Each node is written where it first occurs, and those that occur nowhere at the end: so where a node stands in the list of all is no matter.
type printer struct {
	program Program
	out     strings.Builder
	begun   []bool // by nodes: a program that Of did not make may lead back to one
}

// Print is a program as a text.
func Print(p Program) string {
	w := &printer{program: p, begun: make([]bool, len(p.Nodes))}
	w.numbers(p.Top)
	for _, g := range p.Globals {
		w.line("global", g.Name)
		w.numbers(g.At, g.Size, g.Init)
	}
	for _, f := range p.Funcs {
		w.line("function", f.Name)
		w.numbers(f.Params, f.Regs, f.Frame)
		w.part(f.Body)
	}
	// From the last one on, for a node comes after its parts.
	for n := len(p.Nodes) - 1; n >= 0; n-- {
		if !w.begun[n] {
			w.line("node", "")
			w.part(n)
		}
	}
	w.out.WriteByte('\n')
	return w.out.String()
}

func (w *printer) line(what, name string) {
	w.out.WriteString("\n" + what + " " + strconv.Quote(name))
}

func (w *printer) numbers(l ...int) {
	for _, n := range l {
		w.out.WriteString(" " + strconv.Itoa(n))
	}
}

// part writes a node, with its parts in their places.
func (w *printer) part(n int) {
	if n < 0 || n >= len(w.begun) {
		w.numbers(n)
		return
	}
	if w.begun[n] {
		w.out.WriteString(" #" + strconv.Itoa(n))
		return
	}
	w.begun[n] = true
	x := w.program.Nodes[n]
	w.out.WriteString(" (" + strconv.Itoa(x.Kind))
	w.numbers(x.N, x.Type)
	// The name of a register is not written.
	if x.Kind != Reg && x.Kind != Set {
		w.out.WriteString(" " + strconv.Quote(x.Text))
	}
	l := used(x)
	for _, part := range l {
		w.part(part)
	}
	w.numbers(fields(x)[len(l):]...)
	w.out.WriteByte(')')
}
