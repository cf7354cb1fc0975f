package tree

import (
	"iter"
	"slices"

	"doppel/api"
	"doppel/lex"
)

const maxTypes = 256

// parser is how far tokens are read. What it cannot read it leaves by a panic, which program catches: read then tells where, and errno why.
type parser struct {
	tokens []api.Token // without the End behind them
	end    api.Token
	read   int
	depth  int
	tree   Tree
	errno  api.Errno
}

func newParser(l []api.Token) *parser {
	p := &parser{tokens: l}
	if last := len(l) - 1; last >= 0 {
		p.end.At = l[last].At + len(l[last].Text)
		if l[last].Kind == api.End {
			p.tokens, p.end = l[:last], l[last]
		}
	}
	for kind := range names {
		p.tree.Types = append(p.tree.Types, api.Type{Kind: kind})
	}
	return p
}

// program reads all tokens, or tells why it does not.
func (p *parser) program() (errno api.Errno) {
	defer func() {
		if recover() != nil {
			errno = p.errno
		}
	}()
	p.tree.Top = p.list(p.wholes)
	return api.OK
}

// fail never returns; its result lets it stand where one is wanted.
func (p *parser) fail(errno api.Errno) int {
	p.errno = errno
	panic(errno)
}

// ahead is the token so many behind the next one.
func (p *parser) ahead(n int) api.Token {
	if p.read+n < len(p.tokens) {
		return p.tokens[p.read+n]
	}
	return p.end
}

func (p *parser) now() api.Token { return p.ahead(0) }

// same tells whether a token is that word or sign.
func same(t api.Token, text string) bool {
	if t.Text != text {
		return false
	}
	if lex.Is(text) {
		return t.Kind == api.Word
	}
	return t.Kind == api.Sign
}

func (p *parser) is(text string) bool { return same(p.now(), text) }

// take reads the next token. Here, not in deeper, it is told that something stands too deep: a token that is not possible there does not come to this, and is told of as such.
func (p *parser) take() api.Token {
	if p.depth > api.MaxDepth {
		p.fail(api.ErrDeep)
	}
	t := p.now()
	p.read++
	return t
}

// took reads the next token if it is that word or sign.
func (p *parser) took(text string) bool {
	if !p.is(text) {
		return false
	}
	p.take()
	return true
}

func (p *parser) need(text string) {
	if !p.took(text) {
		p.fail(api.ErrSyntax)
	}
}

func (p *parser) kind(kind int) api.Token {
	if p.now().Kind != kind {
		p.fail(api.ErrSyntax)
	}
	return p.take()
}

func (p *parser) name() string { return p.kind(api.Name).Text }

func (p *parser) number() int { return p.kind(api.Number).N }

// signed is a number that may follow a minus.
func (p *parser) signed() int {
	if p.took("-") {
		return -p.number()
	}
	return p.number()
}

// deeper is what parse reads, one level deeper.
func (p *parser) deeper(parse func() int) int {
	p.depth++
	defer p.leave()
	return parse()
}

func (p *parser) leave() { p.depth-- }

// node is a node without parts that stands at the next token.
func (p *parser) node(kind int) api.Node {
	return api.Node{Kind: kind, A: none, B: none, C: none, D: none, At: p.now().At}
}

func (p *parser) add(n api.Node) int {
	if len(p.tree.Nodes) == api.MaxNodes {
		return p.fail(api.ErrLong)
	}
	p.tree.Nodes = append(p.tree.Nodes, n)
	return len(p.tree.Nodes) - 1
}

// list is a list of what items reads. It is made from its last item on, for a node comes after those that it contains.
func (p *parser) list(items iter.Seq[int]) int {
	var all []int
	for item := range items {
		all = append(all, item)
	}
	rest := none
	for _, item := range slices.Backward(all) {
		n := p.node(Item)
		n.A, n.B, n.At = item, rest, p.tree.Nodes[item].At
		rest = p.add(n)
	}
	return rest
}

// commas is what parse reads, separated by commas, up to a closing bracket.
func (p *parser) commas(parse func() int) iter.Seq[int] {
	return func(yield func(int) bool) {
		for more := !p.is(")"); more; more = p.took(",") {
			if !yield(parse()) {
				return
			}
		}
	}
}

func (p *parser) wholes(yield func(int) bool) {
	for p.read < len(p.tokens) && yield(p.whole()) {
	}
}

// whole is a structure, a global or a function.
func (p *parser) whole() int {
	if p.is("struct") && p.ahead(1).Kind == api.Name && same(p.ahead(2), "{") {
		return p.structure()
	}
	n := p.node(Whole)
	n.Type, n.Text = p.typed(), p.name()
	if p.took("(") {
		n.Kind, n.A = Function, p.list(p.commas(p.param))
		p.need(")")
		n.B = p.block()
		return p.add(n)
	}
	n.Type = p.counted(n.Type)
	if p.took("=") {
		n.N = p.signed()
	}
	p.need(";")
	return p.add(n)
}

func (p *parser) structure() int {
	n := p.node(Structure)
	p.need("struct")
	n.Text = p.name()
	p.need("{")
	n.A = p.list(p.fields)
	p.need("}")
	p.need(";")
	return p.add(n)
}

func (p *parser) fields(yield func(int) bool) {
	for yield(p.field()) && !p.is("}") {
	}
}

func (p *parser) field() int {
	n := p.node(Param)
	n.Type, n.Text = p.typed(), p.name()
	n.Type = p.counted(n.Type)
	p.need(";")
	return p.add(n)
}

func (p *parser) param() int {
	n := p.node(Param)
	n.Type, n.Text = p.typed(), p.name()
	return p.add(n)
}

// begins tells whether a token begins a type.
func begins(t api.Token) bool {
	return t.Kind == api.Word && (t.Text == "struct" || slices.Contains(names[:], t.Text))
}

// typed is the number of a type.
func (p *parser) typed() int {
	of := p.plain()
	for p.took("*") {
		of = p.numbered(api.Type{Kind: api.Pointer, Elem: of})
	}
	return of
}

// plain is the number of a type without its stars.
func (p *parser) plain() int {
	for kind, name := range names {
		if p.took(name) {
			return kind
		}
	}
	p.need("struct")
	return p.numbered(api.Type{Kind: api.Struct, Name: p.name()})
}

// counted is the number of a type, or of an array of it if a count follows.
func (p *parser) counted(of int) int {
	if !p.took("[") {
		return of
	}
	n := p.number()
	p.need("]")
	return p.numbered(api.Type{Kind: api.Array, Elem: of, N: n})
}

// numbered is the number of a type, which is added if it is new.
func (p *parser) numbered(t api.Type) int {
	if n := slices.Index(p.tree.Types, t); n >= 0 {
		return n
	}
	if len(p.tree.Types) == maxTypes {
		return p.fail(api.ErrLong)
	}
	p.tree.Types = append(p.tree.Types, t)
	return len(p.tree.Types) - 1
}
