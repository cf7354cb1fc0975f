package core

import (
	"slices"

	"doppel/tree"
)

// row is what a list has: how many items, and how many of these are expressions, and how many are statements.
type row struct {
	items, expressions, statements int
}

// judge is what is known of a program's nodes: what lists begin at them.
type judge struct {
	program Program
	rows    []row
}

// Right tells whether a program may be.
func Right(p Program) bool {
	j := &judge{program: p}
	for n := range p.Nodes {
		if !j.node(n) {
			return false
		}
	}
	return !slices.ContainsFunc(p.Funcs, func(f Func) bool { return !j.function(f) })
}

func isExpression(kind int) bool { return Num <= kind && kind <= Then }

func isStatement(kind int) bool { return tree.Do <= kind && kind <= tree.Empty }

// node tells whether a node may be, and takes in the list that begins there, if all nodes ahead of it may be.
func (j *judge) node(n int) bool {
	x := j.program.Nodes[n]
	for i, part := range used(x) {
		if !j.fits(part, parts(x.Kind)[i]) {
			return false
		}
	}
	j.rows = append(j.rows, j.begun(n))
	return x.Kind != Call || j.called(n)
}

// begun is the list that begins at a node.
func (j *judge) begun(n int) row {
	x := j.program.Nodes[n]
	if x.Kind != tree.Item {
		return row{}
	}
	r := j.row(x.B)
	r.items++
	if isExpression(j.program.Nodes[x.A].Kind) {
		r.expressions++
	} else {
		r.statements++
	}
	return r
}

func (j *judge) row(n int) row {
	if n == none {
		return row{}
	}
	return j.rows[n]
}

// fits tells whether a node comes ahead of the one that is judged, and may be a part of that sort.
func (j *judge) fits(n int, sort byte) bool {
	if n == none {
		return sort == 'E' || sort == 'S' || sort == 'x' || sort == 'y' || sort == 'r'
	}
	if n < 0 || n >= len(j.rows) {
		return false
	}
	kind := j.program.Nodes[n].Kind
	switch sort {
	case 'e', 'E':
		return isExpression(kind)
	case 's', 'S':
		return isStatement(kind)
	case 'b':
		return kind == tree.Block
	case 'i':
		return isExpression(kind) || isStatement(kind)
	case 'x':
		return kind == tree.Item && j.rows[n].statements == 0
	case 'y':
		return kind == tree.Item && j.rows[n].expressions == 0
	}
	return kind == tree.Item
}

// called tells whether a call is of a function that there is, and has its arguments.
func (j *judge) called(n int) bool {
	x := j.program.Nodes[n]
	k := Find(j.program, x.Text)
	return k >= 0 && j.row(x.A).items == j.program.Funcs[k].Params
}

// function tells whether a function has what its nodes name.
func (j *judge) function(f Func) bool {
	if f.Params < 0 || f.Params > f.Regs || f.Frame < 0 || !j.fits(f.Body, 'b') {
		return false
	}
	for x := range within(j.program.Nodes, f.Body, used) {
		if !has(f, x.Kind, x.N) {
			return false
		}
	}
	return true
}

// has tells whether a function has the register or the word that a node of a kind names.
func has(f Func, kind, n int) bool {
	switch kind {
	case Reg, Set:
		return 0 <= n && n < f.Regs
	case Frame:
		return 0 <= n && n < f.Frame
	}
	return true
}
