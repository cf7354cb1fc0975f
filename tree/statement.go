package tree

import "doppel/api"

func (p *parser) block() int {
	n := p.node(Block)
	p.need("{")
	n.A = p.list(p.statements)
	p.need("}")
	return p.add(n)
}

func (p *parser) statements(yield func(int) bool) {
	for !p.is("}") && yield(p.deeper(p.statement)) {
	}
}

func (p *parser) statement() int {
	n := p.node(Do)
	switch {
	case p.is("{"):
		return p.block()
	case p.took("if"):
		n.Kind, n.A, n.B = If, p.bracketed(), p.deeper(p.statement)
		if p.took("else") {
			n.C = p.deeper(p.statement)
		}
	case p.took("while"):
		n.Kind, n.A, n.B = While, p.bracketed(), p.deeper(p.statement)
	case p.took("for"):
		p.need("(")
		n.Kind, n.A, n.B, n.C = For, p.unless(";"), p.unless(";"), p.unless(")")
		n.D = p.deeper(p.statement)
	case p.took("switch"):
		n.Kind, n.A, n.B = Switch, p.bracketed(), p.block()
	case p.took("case"):
		n.Kind, n.N, n.A = Case, p.signed(), p.marked()
	case p.took("default"):
		n.Kind, n.A = Default, p.marked()
	case p.now().Kind == api.Name && same(p.ahead(1), ":"):
		n.Kind, n.Text, n.A = Label, p.name(), p.marked()
	default:
		n = p.simple(n)
		p.need(";")
	}
	return p.add(n)
}

// simple is a statement that a semicolon ends, without it.
func (p *parser) simple(n api.Node) api.Node {
	switch {
	case p.is(";"):
		n.Kind = Empty
	case p.took("do"):
		n.Kind, n.B = DoWhile, p.deeper(p.statement)
		p.need("while")
		n.A = p.bracketed()
	case p.took("break"):
		n.Kind = Break
	case p.took("continue"):
		n.Kind = Continue
	case p.took("return"):
		n.Kind = Give
		if !p.is(";") {
			n.A = p.deeper(p.expression)
		}
	case p.took("goto"):
		n.Kind, n.Text = Goto, p.name()
	case begins(p.now()):
		n.Kind, n.Type, n.Text = Local, p.typed(), p.name()
		n.Type = p.counted(n.Type)
		if p.took("=") {
			n.A = p.deeper(p.expression)
		}
	default:
		n.A = p.deeper(p.expression)
	}
	return n
}

// unless is an expression up to a sign, or none if the sign is next; the sign is read.
func (p *parser) unless(sign string) int {
	if p.took(sign) {
		return none
	}
	n := p.deeper(p.expression)
	p.need(sign)
	return n
}

// marked is the statement behind a label's colon.
func (p *parser) marked() int {
	p.need(":")
	return p.deeper(p.statement)
}
