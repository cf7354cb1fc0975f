package tree

import "doppel/api"

// How strongly an expression binds: the binary operators lie between these.
const (
	assigning  = 0
	choosing   = 1
	prefixing  = 12
	postfixing = 13
)

// strength is how strongly a binary operator binds, and 0 for what is none.
func strength(operator string) int {
	switch operator {
	case "||":
		return 2
	case "&&":
		return 3
	case "|":
		return 4
	case "^":
		return 5
	case "&":
		return 6
	case "==", "!=":
		return 7
	case "<", "<=", ">", ">=":
		return 8
	case "<<", ">>":
		return 9
	case "+", "-":
		return 10
	case "*", "/", "%":
		return 11
	}
	return 0
}

func assigns(operator string) bool {
	switch operator {
	case "=", "+=", "-=", "*=", "/=", "%=", "&=", "|=", "^=", "<<=", ">>=":
		return true
	}
	return false
}

// sign is the text of the next token, if that is a sign.
func (p *parser) sign() string {
	if p.now().Kind == api.Sign {
		return p.now().Text
	}
	return ""
}

func (p *parser) expression() int {
	left := p.choice()
	if !assigns(p.sign()) {
		return left
	}
	n := p.node(Assign)
	n.Text = p.take().Text
	n.A, n.B = left, p.deeper(p.expression)
	return p.add(n)
}

// choice is an expression that is no assignment.
func (p *parser) choice() int {
	left := p.binary(choosing + 1)
	if !p.is("?") {
		return left
	}
	n := p.node(Cond)
	p.take()
	n.A, n.B = left, p.deeper(p.expression)
	p.need(":")
	n.C = p.deeper(p.choice)
	return p.add(n)
}

// binary is an expression whose binary operators, outside of brackets, bind so strongly at least.
func (p *parser) binary(least int) int {
	left := p.prefix()
	for {
		s := strength(p.sign())
		if s < least {
			return left
		}
		n := p.node(Binary)
		n.Text = p.take().Text
		n.A, n.B = left, p.binary(s+1)
		left = p.add(n)
	}
}

func (p *parser) prefix() int {
	if p.is("sizeof") {
		return p.size()
	}
	n := p.node(Unary)
	switch p.sign() {
	case "-", "!", "~", "*", "&":
		n.Text = p.take().Text
	case "++", "--":
		n.Kind, n.Text = Before, p.take().Text
	case "(":
		if !begins(p.ahead(1)) {
			return p.postfix()
		}
		p.take()
		n.Kind, n.Type = Cast, p.typed()
		p.need(")")
	default:
		return p.postfix()
	}
	n.A = p.deeper(p.prefix)
	return p.add(n)
}

func (p *parser) postfix() int {
	left := p.primary()
	for {
		n := p.node(Member)
		n.A = left
		switch p.sign() {
		case "[":
			p.take()
			n.Kind, n.B = Index, p.deeper(p.expression)
			p.need("]")
		case ".":
			p.take()
			n.Text = p.name()
		case "->":
			p.take()
			n.N, n.Text = 1, p.name()
		case "++", "--":
			n.Kind, n.Text = After, p.take().Text
		default:
			return left
		}
		left = p.add(n)
	}
}

// size binds like a prefix operator: a postfix operator may not follow it.
func (p *parser) size() int {
	n := p.node(Sizeof)
	p.need("sizeof")
	p.need("(")
	n.Type = p.typed()
	n.Type = p.counted(n.Type)
	p.need(")")
	return p.add(n)
}

func (p *parser) primary() int {
	n := p.node(Num)
	switch {
	case p.is("("):
		return p.bracketed()
	case p.now().Kind == api.Number:
		n.N = p.number()
	case p.took("getc"):
		n.Kind = In
		p.need("(")
		p.need(")")
	case p.took("putc"):
		n.Kind, n.A = Out, p.bracketed()
	default:
		n.Kind, n.Text = Var, p.name()
		if p.took("(") {
			n.Kind, n.A = Calls, p.list(p.commas(p.argument))
			p.need(")")
		}
	}
	return p.add(n)
}

func (p *parser) argument() int { return p.deeper(p.expression) }

func (p *parser) bracketed() int {
	p.need("(")
	n := p.deeper(p.expression)
	p.need(")")
	return n
}
