package core

import (
	"doppel/api"
	"doppel/tree"
	"doppel/word"
)

// statement is what becomes of a statement of the tree.
func (b *body) statement(n int) int {
	x := b.node(n)
	y := blank(x.At, x.Kind)
	switch x.Kind {
	case tree.Do:
		y.A = b.effect(x.A)
	case tree.If:
		y.A, y.B, y.C = b.condition(x.A), b.statement(x.B), b.unless(x.C, b.statement)
	case tree.While:
		y.A, y.B = b.condition(x.A), b.loop(x.B)
	case tree.DoWhile:
		y.B, y.A = b.loop(x.B), b.condition(x.A)
	case tree.For:
		y.A, y.B, y.C = b.unless(x.A, b.effect), b.unless(x.B, b.condition), b.unless(x.C, b.effect)
		y.D = b.loop(x.D)
	case tree.Break:
		b.must(b.breakable > 0, x.At, api.ErrFlow)
	case tree.Continue:
		b.must(b.loops > 0, x.At, api.ErrFlow)
	case tree.Give:
		y.A = b.unless(x.A, func(n int) int { return b.become(x, b.value(n), b.gives).node })
	case tree.Goto:
		y.Text = x.Text
		b.gotos = append(b.gotos, x)
	case tree.Label:
		b.labels[x.Text]++
		b.must(b.labels[x.Text] == 1, x.At, api.ErrFlow)
		y.Text, y.A = x.Text, b.statement(x.A)
	case tree.Switch:
		y.A, y.B = b.numeric(x, x.A).node, b.choices(x.B)
	case tree.Case, tree.Default:
		y.N = b.marked(x)
		y.A = b.statement(x.A)
	case tree.Block:
		return b.block(x)
	case tree.Empty:
	case tree.Local:
		return b.local(x)
	default:
		b.fail(0, api.ErrSyntax)
	}
	return b.add(y)
}

// unless is what becomes of a part of the tree that may be missing.
func (b *body) unless(n int, become func(int) int) int {
	if n == none {
		return none
	}
	return become(n)
}

func (b *body) block(x api.Node) int {
	return b.scoped(x.At, func() []int {
		var l []int
		for _, n := range tree.List(b.tree, x.A) {
			l = append(l, b.statement(n))
		}
		return l
	})
}

// loop is the statement that a loop repeats.
func (b *body) loop(n int) int {
	b.loops++
	b.breakable++
	inner := b.statement(n)
	b.loops--
	b.breakable--
	return inner
}

// choices is the block of a switch.
func (b *body) choices(n int) int {
	outer := b.marks
	b.marks = map[mark]int{}
	b.breakable++
	inner := b.statement(n)
	b.marks = outer
	b.breakable--
	return inner
}

// marked is the word of a case, which its switch must not have twice.
func (b *body) marked(x api.Node) int {
	m := mark{x.Kind, word.Wrap(x.N)}
	b.must(b.marks != nil && b.marks[m] == 0, x.At, api.ErrFlow)
	b.marks[m]++
	return m.n
}

// local is a declaration. What it declares is not there before its initial value.
func (b *body) local(x api.Node) int {
	_, twice := b.innermost()[x.Text]
	b.must(!twice, x.At, api.ErrName)
	of := b.typed(x)
	_, is := b.size(of)
	b.must(is && (x.A == none || b.scalar(of)), x.At, api.ErrType)
	if !b.scalar(of) {
		b.declare(x, of)
		return b.build(x.At, tree.Empty, 0)
	}
	if x.A == none {
		first := b.build(x.At, Num, 0)
		return b.initial(x, b.declare(x, of), first)
	}
	first := b.become(x, b.value(x.A), of)
	return b.initial(x, b.declare(x, of), first.node)
}
