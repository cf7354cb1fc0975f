package core

import (
	"slices"

	"doppel/api"
	"doppel/tree"
)

// mark is a case or a default of a switch.
type mark struct {
	kind, n int
}

// body is how far a function's body is checked.
type body struct {
	*checker
	signature
	made      Func
	locals    []map[string]variable // by blocks, the innermost one last
	addressed map[string]int        // how often a name is an operand of &
	labels    map[string]int        // how often a label occurs
	gotos     []api.Node
	marks     map[mark]int // of the innermost switch; nil outside of any
	loops     int          // how many a continue may belong to
	breakable int          // how many loops and switches a break may belong to
}

// function checks a function's body, and adds the function to the program.
func (c *checker) function(s signature) {
	b := &body{
		checker:   c,
		signature: s,
		made:      Func{Name: s.source.Text, Params: len(s.params)},
		addressed: c.operands(s.source.B),
		labels:    map[string]int{},
	}
	b.made.Body = b.scoped(s.source.At, func() []int {
		return append(b.parameters(), b.statement(s.source.B))
	})
	for _, x := range b.gotos {
		c.must(b.labels[x.Text] > 0, x.At, api.ErrFlow)
	}
	c.program.Funcs = append(c.program.Funcs, b.made)
}

// operands counts the names that are operands of & within a node of the tree.
func (c *checker) operands(n int) map[string]int {
	names := map[string]int{}
	for x := range within(c.tree.Nodes, n, fields) {
		if x.Kind == tree.Unary && x.Text == "&" && c.tree.Nodes[x.A].Kind == tree.Var {
			names[c.tree.Nodes[x.A].Text]++
		}
	}
	return names
}

// scoped is a block of the statements that a closure makes, in a scope of its own.
func (b *body) scoped(at int, block func() []int) int {
	b.locals = append(b.locals, map[string]variable{})
	n := b.build(at, tree.Block, 0, b.list(block()))
	b.locals = b.locals[:len(b.locals)-1]
	return n
}

// scopes goes through the scopes, from the innermost one on to that of the globals.
func (b *body) scopes(yield func(map[string]variable) bool) {
	for _, scope := range slices.Backward(b.locals) {
		if !yield(scope) {
			return
		}
	}
	yield(b.globals)
}

func (b *body) innermost() map[string]variable { return b.locals[len(b.locals)-1] }

// register is a new register, for what a node needs.
func (b *body) register(at int) int {
	b.must(b.made.Regs < api.MaxRegs, at, api.ErrLong)
	b.made.Regs++
	return b.made.Regs - 1
}

// words are new words of the frame: the first one's number.
func (b *body) words(at, size int) int {
	b.must(b.made.Frame+size <= api.MaxWords, at, api.ErrLong)
	b.made.Frame += size
	return b.made.Frame - size
}

// parameters declares the parameters, and makes the statements that put those into the frame of which an address is taken.
func (b *body) parameters() []int {
	var l []int
	for _, p := range b.params {
		b.innermost()[p.source.Text] = variable{p.of, Reg, b.register(p.source.At)}
	}
	for n, p := range b.params {
		if x := p.source; b.addressed[x.Text] > 0 {
			v := b.declare(x, p.of)
			l = append(l, b.initial(x, v, b.build(x.At, Reg, n)))
		}
	}
	return l
}

// declare gives a name an object in the innermost block.
func (b *body) declare(x api.Node, of kind) variable {
	v := variable{of: of}
	if b.scalar(of) && b.addressed[x.Text] == 0 {
		v.where, v.n = Reg, b.register(x.At)
	} else {
		size, _ := b.size(of)
		v.where, v.n = Frame, b.words(x.At, size)
	}
	b.innermost()[x.Text] = v
	return v
}

// initial is the statement that gives a variable its initial value.
func (b *body) initial(x api.Node, v variable, node int) int {
	return b.build(x.At, tree.Do, 0, b.put(x.At, b.object(x.At, v), node))
}
