package core

import (
	"doppel/api"
	"doppel/tree"
)

// operation is what an operator on two numbers does, with a sign and without one. An inverse one yields 1 where the operation yields 0.
type operation struct {
	sign             string
	signed, unsigned api.Op
	inverse          bool
}

// There is no operation for > and >=, and the operands cannot change places: the left one is evaluated first.
var operations = [...]operation{
	{"+", api.Add, api.Add, false},
	{"-", api.Sub, api.Sub, false},
	{"*", api.Mul, api.Mul, false},
	{"/", api.Div, api.DivU, false},
	{"%", api.Rem, api.RemU, false},
	{"&", api.And, api.And, false},
	{"|", api.Or, api.Or, false},
	{"^", api.Xor, api.Xor, false},
	{"<<", api.Shl, api.Shl, false},
	{">>", api.Shr, api.ShrU, false},
	{"==", api.Eq, api.Eq, false},
	{"!=", api.Ne, api.Ne, false},
	{"<", api.Lt, api.LtU, false},
	{"<=", api.Le, api.LeU, false},
	{">", api.Le, api.LeU, true},
	{">=", api.Lt, api.LtU, true},
}

// operate applies an operator to words.
func (b *body) operate(x api.Node, sign string, unsigned bool, left, right int) int {
	for _, o := range operations {
		if o.sign != sign {
			continue
		}
		op := o.signed
		if unsigned {
			op = o.unsigned
		}
		result := b.build(x.At, Two, int(op), left, right)
		if o.inverse {
			result = b.build(x.At, One, int(api.Zero), result)
		}
		return result
	}
	b.fail(0, api.ErrSyntax)
	return none
}

func (b *body) unary(x api.Node) value {
	switch x.Text {
	case "*":
		return b.get(x, b.placed(x))
	case "&":
		p := b.place(x.A)
		_, is := b.element(p.of)
		b.must(!is || b.tree.Nodes[x.A].Kind == tree.Var, x.At, api.ErrType)
		return value{node: p.address, of: p.of.pointer()}
	case "!":
		return integer(b.build(x.At, One, int(api.Zero), b.condition(x.A)))
	}
	op := api.Neg
	if x.Text == "~" {
		op = api.Not
	}
	v := b.numeric(x, x.A)
	return value{node: b.build(x.At, One, int(op), v.node), of: either(v.of, v.of)}
}

func (b *body) binary(x api.Node) value {
	switch x.Text {
	case "&&":
		return integer(b.build(x.At, And, 0, b.condition(x.A), b.condition(x.B)))
	case "||":
		return integer(b.build(x.At, Or, 0, b.condition(x.A), b.condition(x.B)))
	}
	left := b.value(x.A)
	return b.two(x, x.Text, left, b.value(x.B))
}

// two is the result of an operator on two values.
func (b *body) two(x api.Node, sign string, left, right value) value {
	of := either(left.of, right.of)
	pointers := left.of.points() || right.of.points()
	switch sign {
	case "==", "!=", "<", "<=", ">", ">=":
		_, alike := b.common(left, right)
		b.must(alike, x.At, api.ErrType)
		unsigned := pointers || of.base == api.Unsigned
		return integer(b.operate(x, sign, unsigned, left.node, right.node))
	case "+", "-":
		if pointers {
			return b.step(x, sign, left, right)
		}
	case "<<", ">>":
		of = either(left.of, left.of)
	}
	b.must(!pointers, x.At, api.ErrType)
	return value{node: b.operate(x, sign, of.base == api.Unsigned, left.node, right.node), of: of}
}

// common is the kind that two values can be used as, and whether there is one.
func (b *body) common(left, right value) (kind, bool) {
	switch {
	case !left.of.points() && !right.of.points():
		return either(left.of, right.of), true
	case left.of == right.of || right.null:
		return left.of, true
	case left.null:
		return right.of, true
	}
	return kind{}, false
}

// step is the sum or the difference of two values one of which is a pointer at least.
func (b *body) step(x api.Node, sign string, left, right value) value {
	of := left.of
	if !left.of.points() {
		of = right.of
	}
	size, is := b.size(of.pointed())
	if !is {
		size = 1
	}
	scaled := func(node int, op api.Op) int {
		if size == 1 {
			return node
		}
		return b.build(x.At, Two, int(op), node, b.build(x.At, Num, size))
	}
	switch {
	case !right.of.points():
		right.node = scaled(right.node, api.Mul)
	case !left.of.points() && sign == "+":
		left.node = scaled(left.node, api.Mul)
	default:
		b.must(left.of == right.of && sign == "-", x.At, api.ErrType)
		return integer(scaled(b.operate(x, sign, false, left.node, right.node), api.Div))
	}
	return value{node: b.operate(x, sign, false, left.node, right.node), of: of}
}

func (b *body) choice(x api.Node) value {
	c, left := b.condition(x.A), b.value(x.B)
	right := b.value(x.C)
	of, alike := b.common(left, right)
	b.must(alike, x.At, api.ErrType)
	return value{node: b.build(x.At, Cond, 0, c, left.node, right.node), of: of}
}

// become is a value that becomes one of a kind without a cast.
func (b *body) become(x api.Node, v value, to kind) value {
	anything := kind{api.Void, 1}
	switch {
	case b.isNumber(to):
		b.must(!v.of.points(), x.At, api.ErrType)
	case to.points() && v.of.points():
		b.must(v.of == to || v.of == anything || to == anything, x.At, api.ErrType)
	default:
		b.must(to.points() && v.null, x.At, api.ErrType)
	}
	return b.cast(x, v, to)
}

// cast is a value as one of a kind: words are all the same, but that of a char has eight bits.
func (b *body) cast(x api.Node, v value, to kind) value {
	if to == (kind{base: api.Char}) {
		v.node = b.build(x.At, One, int(api.Low), v.node)
	}
	return value{node: v.node, of: to}
}

// call is a call, which has no value if the function returns none.
func (b *body) call(x api.Node) value {
	k, is := b.functions[x.Text]
	b.must(is, x.At, api.ErrName)
	s := b.signatures[k]
	given := tree.List(b.tree, x.A)
	b.must(len(given) == len(s.params), x.At, api.ErrType)
	var l []int
	for n, p := range s.params {
		l = append(l, b.become(x, b.value(given[n]), p.of).node)
	}
	y := blank(x.At, Call)
	y.Text, y.A = x.Text, b.list(l)
	return value{node: b.add(y), of: s.gives}
}
