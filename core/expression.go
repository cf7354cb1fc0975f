package core

import (
	"slices"
	"strings"

	"doppel/api"
	"doppel/tree"
	"doppel/word"
)

// value is a word that a node of the program yields: its kind, which is that of a scalar, and whether it is the number 0 of the source, which may become a pointer.
type value struct {
	node int
	of   kind
	null bool
}

// place is an object of a kind: in a register, or at the address that a node of the program yields. The other one is none.
type place struct {
	of                kind
	register, address int
}

// integer is an int that a node of the program yields.
func integer(node int) value { return value{node: node, of: kind{base: api.Int}} }

// effect is an expression of which the value is not used, so it need not have one.
func (b *body) effect(n int) int {
	x := b.node(n)
	if x.Kind == tree.Calls {
		return b.call(x).node
	}
	return b.valued(x).node
}

// condition takes any scalar.
func (b *body) condition(n int) int { return b.value(n).node }

// numeric is the value of a part of x that must be a number.
func (b *body) numeric(x api.Node, part int) value {
	v := b.value(part)
	b.must(!v.of.points(), x.At, api.ErrType)
	return v
}

func (b *body) value(n int) value { return b.valued(b.node(n)) }

// valued is the value of an expression, which must have one.
func (b *body) valued(x api.Node) value {
	switch x.Kind {
	case tree.Num:
		return b.literal(x)
	case tree.Var, tree.Index, tree.Member:
		return b.get(x, b.placed(x))
	case tree.Unary:
		return b.unary(x)
	case tree.Binary:
		return b.binary(x)
	case tree.Assign:
		return b.assign(x)
	case tree.Cond:
		return b.choice(x)
	case tree.Calls:
		v := b.call(x)
		b.must(b.scalar(v.of), x.At, api.ErrType)
		return v
	case tree.Cast:
		to := b.typed(x)
		b.must(b.scalar(to), x.At, api.ErrType)
		return b.cast(x, b.value(x.A), to)
	case tree.Sizeof:
		size, is := b.size(b.typed(x))
		b.must(is, x.At, api.ErrType)
		return integer(b.build(x.At, Num, size))
	case tree.Before, tree.After:
		one := func() value { return integer(b.build(x.At, Num, 1)) }
		return b.change(x, x.Text[:1], one)
	case tree.In:
		return integer(b.build(x.At, In, 0))
	case tree.Out:
		return integer(b.build(x.At, Out, 0, b.numeric(x, x.A).node))
	}
	b.fail(0, api.ErrSyntax)
	return value{}
}

func (b *body) literal(x api.Node) value {
	v := integer(b.build(x.At, Num, word.Wrap(x.N)))
	if x.N >= 1<<31 {
		v.of.base = api.Unsigned
	}
	v.null = x.N == 0
	return v
}

// place is the object that an expression denotes.
func (b *body) place(n int) place { return b.placed(b.node(n)) }

func (b *body) placed(x api.Node) place {
	switch {
	case x.Kind == tree.Var:
		for scope := range b.scopes {
			if v, is := scope[x.Text]; is {
				return b.object(x.At, v)
			}
		}
		b.fail(x.At, api.ErrName)
	case x.Kind == tree.Unary && x.Text == "*":
		return b.target(x, b.value(x.A))
	case x.Kind == tree.Index:
		array := b.value(x.A)
		return b.target(x, b.two(x, "+", array, b.value(x.B)))
	case x.Kind == tree.Member:
		return b.member(x)
	}
	b.fail(x.At, api.ErrType)
	return place{}
}

// object is where a variable is.
func (b *body) object(at int, v variable) place {
	if v.where == Reg {
		return place{v.of, v.n, none}
	}
	return place{v.of, none, b.build(at, v.where, v.n)}
}

// target is what a pointer points to.
func (b *body) target(x api.Node, pointer value) place {
	b.must(pointer.of.points(), x.At, api.ErrType)
	return place{pointer.of.pointed(), none, pointer.node}
}

// member is a field of a struct.
func (b *body) member(x api.Node) place {
	var whole place
	if x.N == 1 {
		whole = b.target(x, b.value(x.A))
	} else {
		whole = b.place(x.A)
	}
	b.must(b.isStruct(whole.of), x.At, api.ErrType)
	offset, of, is := b.table.Field(whole.of.base, x.Text)
	b.must(is, x.At, api.ErrName)
	address := whole.address
	if offset > 0 {
		address = b.build(x.At, Two, int(api.Add), address, b.build(x.At, Num, offset))
	}
	return place{b.kind(of), none, address}
}

// get is the value of an object; that of an array is the address of its first element.
func (b *body) get(x api.Node, p place) value {
	if element, is := b.element(p.of); is {
		return value{node: p.address, of: element.pointer()}
	}
	b.must(b.scalar(p.of), x.At, api.ErrType)
	if p.address == none {
		return value{node: b.build(x.At, Reg, p.register), of: p.of}
	}
	return value{node: b.build(x.At, Load, 0, p.address), of: p.of}
}

// put stores a value that a node yields in an object.
func (b *body) put(at int, p place, node int) int {
	if p.address == none {
		return b.build(at, Set, p.register, node)
	}
	return b.build(at, Store, 0, p.address, node)
}

// left is what an assignment may change.
func (b *body) left(n int) place {
	x := b.node(n)
	p := b.placed(x)
	b.must(b.scalar(p.of), x.At, api.ErrType)
	return p
}

func (b *body) assign(x api.Node) value {
	if x.Text != "=" {
		return b.change(x, strings.TrimSuffix(x.Text, "="), func() value { return b.value(x.B) })
	}
	p := b.left(x.A)
	v := b.become(x, b.value(x.B), p.of)
	return value{node: b.put(x.At, p, v.node), of: p.of}
}

// change puts the result of an operator, with what an object has and another value, into the object. What stands at several places is kept in a register, so that it is computed once.
func (b *body) change(x api.Node, sign string, right func() value) value {
	p := b.left(x.A)
	var steps []int
	keep := func(node int) int {
		n := b.register(x.At)
		steps = append(steps, b.build(x.At, Set, n, node))
		return n
	}
	kept := func(n int) int { return b.build(x.At, Reg, n) }
	again := func() place { return p }
	if p.address != none {
		n := keep(p.address)
		again = func() place { return place{p.of, none, kept(n)} }
	}
	old, before := b.get(x, again()), none
	if x.Kind == tree.After {
		before = keep(old.node)
		old.node = kept(before)
	}
	changed := b.become(x, b.two(x, sign, old, right()), p.of)
	steps = append(steps, b.put(x.At, again(), changed.node))
	if x.Kind == tree.After {
		steps = append(steps, kept(before))
	}
	return value{node: b.inTurn(x, steps), of: p.of}
}

// inTurn evaluates expressions one after the other: the last one is the value.
func (b *body) inTurn(x api.Node, steps []int) int {
	last := len(steps) - 1
	result := steps[last]
	for _, step := range slices.Backward(steps[:last]) {
		result = b.build(x.At, Then, 0, step, result)
	}
	return result
}
