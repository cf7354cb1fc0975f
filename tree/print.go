package tree

import (
	"strconv"
	"strings"

	"doppel/api"
	"doppel/lex"
)

// printer is what is written of a tree. Brackets and spaces stand only where they are needed: so the text of a source is no longer than the source, and no deeper, and can be read wherever that could.
type printer struct {
	tree  Tree
	out   strings.Builder
	last  string
	begun []bool // by nodes: a tree that Parse did not make may lead back to one
}

// Print is a tree as a source.
func Print(t Tree) string {
	p := &printer{tree: t, begun: make([]bool, len(t.Nodes))}
	p.list(t.Top, "", "")
	return p.out.String()
}

// put writes tokens.
func (p *printer) put(tokens ...string) {
	for _, t := range tokens {
		if !apart(p.last, t) {
			p.out.WriteByte(' ')
		}
		p.out.WriteString(t)
		p.last = t
	}
}

// apart tells whether a token is still read as one where another one follows it without a space.
func apart(last, next string) bool {
	if last == "" {
		return true
	}
	l, _, errno := lex.Scan(last + next)
	return errno == api.OK && l[0].Text == last
}

// begin is a node, and whether there is one that was not begun before.
func (p *printer) begin(n int) (api.Node, bool) {
	if n < 0 || n >= len(p.begun) || p.begun[n] {
		return api.Node{}, false
	}
	p.begun[n] = true
	return p.tree.Nodes[n], true
}

// list writes the items of a list: one sign between them, and one behind each.
func (p *printer) list(n int, between, behind string) {
	for first := true; p.tree.is(n, Item); first = false {
		item, is := p.begin(n)
		if !is {
			return
		}
		if !first && between != "" {
			p.put(between)
		}
		p.part(item.A, 0)
		if behind != "" {
			p.put(behind)
		}
		n = item.B
	}
}

// part writes a node, in brackets if it binds less than it must.
func (p *printer) part(n, least int) {
	node, is := p.begin(n)
	if !is {
		return
	}
	if binding(node) >= least {
		p.node(node)
		return
	}
	p.put("(")
	p.node(node)
	p.put(")")
}

// binding is how strongly a node binds.
func binding(n api.Node) int {
	switch n.Kind {
	case Assign:
		return assigning
	case Cond:
		return choosing
	case Binary:
		return strength(n.Text)
	case Unary, Before, Cast, Sizeof:
		return prefixing
	}
	return postfixing
}

// least is how strongly the parts A, B and C must bind to stand in a node without brackets.
func least(n api.Node) (a, b, c int) {
	own := binding(n)
	switch n.Kind {
	case Assign:
		return own + 1, own, 0
	case Cond:
		return own + 1, assigning, own
	case Binary:
		return own, own + 1, 0
	case Unary, Before, Cast, Index, Member, After:
		return own, assigning, 0
	}
	return 0, 0, 0
}

// node writes a node by its shape.
func (p *printer) node(n api.Node) {
	a, b, c := least(n)
	for _, word := range strings.Fields(shape(n)) {
		switch word {
		case "A":
			p.part(n.A, a)
		case "B":
			p.part(n.B, b)
		case "C":
			p.part(n.C, c)
		case "D":
			p.part(n.D, 0)
		case "N":
			p.number(n.N)
		case "Text":
			p.put(n.Text)
		case "Type":
			p.put(written(p.tree, n.Type)...)
		case "Declared":
			p.declared(n)
		case "Items":
			p.list(n.A, "", "")
		case "Items,":
			p.list(n.A, ",", "")
		case "Items;":
			p.list(n.A, "", ";")
		default:
			p.put(word)
		}
	}
}

func (p *printer) number(n int) {
	if n < 0 {
		p.put("-")
	}
	p.put(strings.TrimPrefix(strconv.Itoa(n), "-"))
}

// declared writes a type and a name; the count of an array stands behind the name.
func (p *printer) declared(n api.Node) {
	if 0 <= n.Type && n.Type < len(p.tree.Types) {
		if of := p.tree.Types[n.Type]; of.Kind == api.Array {
			p.put(written(p.tree, of.Elem)...)
			p.put(n.Text, "[")
			p.number(of.N)
			p.put("]")
			return
		}
	}
	p.put(written(p.tree, n.Type)...)
	p.put(n.Text)
}

// shape is how a node is written: tokens, and what of the node stands between them.
func shape(n api.Node) string {
	switch n.Kind {
	case Function:
		return "Declared ( Items, ) B"
	case Param:
		return "Declared"
	case Whole:
		if n.N == 0 {
			return "Declared ;"
		}
		return "Declared = N ;"
	case Structure:
		return "struct Text { Items; } ;"
	}
	if n.Kind < Item {
		return shapeOfExpression(n)
	}
	return shapeOfStatement(n)
}

func shapeOfExpression(n api.Node) string {
	switch n.Kind {
	case Num:
		return "N"
	case Var:
		return "Text"
	case Unary, Before:
		return "Text A"
	case Binary, Assign:
		return "A Text B"
	case Cond:
		return "A ? B : C"
	case Index:
		return "A [ B ]"
	case Member:
		if n.N == 1 {
			return "A -> Text"
		}
		return "A . Text"
	case Calls:
		return "Text ( Items, )"
	case Cast:
		return "( Type ) A"
	case Sizeof:
		return "sizeof ( Type )"
	case After:
		return "A Text"
	case In:
		return "getc ( )"
	case Out:
		return "putc ( A )"
	}
	return ""
}

func shapeOfStatement(n api.Node) string {
	switch n.Kind {
	case Do:
		return "A ;"
	case If:
		if n.C == none {
			return "if ( A ) B"
		}
		return "if ( A ) B else C"
	case While:
		return "while ( A ) B"
	case DoWhile:
		return "do B while ( A ) ;"
	case For:
		return "for ( A ; B ; C ) D"
	case Break:
		return "break ;"
	case Continue:
		return "continue ;"
	case Give:
		return "return A ;"
	case Goto:
		return "goto Text ;"
	case Label:
		return "Text : A"
	case Switch:
		return "switch ( A ) B"
	case Case:
		return "case N : A"
	case Default:
		return "default : A"
	case Block:
		return "{ Items }"
	case Empty:
		return ";"
	case Local:
		if n.A == none {
			return "Declared ;"
		}
		return "Declared = A ;"
	}
	return ""
}
