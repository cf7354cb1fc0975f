package core

import (
	"slices"

	"doppel/api"
	"doppel/tree"
	"doppel/types"
	"doppel/word"
)

// variable is what a name denotes: an object of a kind, and where it is: in the register n (Reg), n words behind the frame's address (Frame), or at the address n (Num).
type variable struct {
	of       kind
	where, n int
}

// parameter is a parameter's kind, and where it stands in the tree.
type parameter struct {
	of     kind
	source api.Node
}

// signature is what a call must know of a function, and where that stands in the tree.
type signature struct {
	gives  kind
	params []parameter
	source api.Node
}

// checker is how far a tree is checked. What may not be it leaves by a panic, which check catches: at then tells where, and errno why.
type checker struct {
	tree       tree.Tree
	begun      []bool // by nodes of the tree
	table      *types.Table
	globals    map[string]variable
	functions  map[string]int // the places of signatures
	signatures []signature
	program    Program
	at         int
	errno      api.Errno
}

// newChecker tells of a tree that Parse did not make as of a syntax error, wherever it may lead.
func newChecker(t tree.Tree) *checker {
	return &checker{
		tree:      t,
		begun:     make([]bool, len(t.Nodes)),
		table:     types.New(),
		globals:   map[string]variable{},
		functions: map[string]int{},
		program:   Program{Top: 1},
		errno:     api.ErrSyntax,
	}
}

// check makes the program, or tells where it cannot, and why.
func (c *checker) check() (at int, errno api.Errno) {
	defer func() {
		if recover() != nil {
			at, errno = c.at, c.errno
		}
	}()
	for _, n := range tree.List(c.tree, c.tree.Top) {
		c.whole(c.node(n))
	}
	for _, s := range c.signatures {
		c.function(s)
	}
	c.must(c.hasMain(), 0, api.ErrMain)
	return 0, api.OK
}

func (c *checker) fail(at int, errno api.Errno) {
	c.at, c.errno = at, errno
	panic(errno)
}

func (c *checker) must(is bool, at int, errno api.Errno) {
	if !is {
		c.fail(at, errno)
	}
}

// node is a node of the tree. In a tree that Parse made, each is in one other only; what leads back to one ends here.
func (c *checker) node(n int) api.Node {
	c.must(!c.begun[n], 0, api.ErrSyntax)
	c.begun[n] = true
	return c.tree.Nodes[n]
}

// nodes are the items of a list of the tree.
func (c *checker) nodes(n int) []api.Node {
	var l []api.Node
	for _, item := range tree.List(c.tree, n) {
		l = append(l, c.node(item))
	}
	return l
}

// add adds a node to the program.
func (c *checker) add(n api.Node) int {
	c.program.Nodes = append(c.program.Nodes, n)
	return len(c.program.Nodes) - 1
}

// blank is a node of the program without parts.
func blank(at, kind int) api.Node {
	return api.Node{Kind: kind, A: none, B: none, C: none, D: none, At: at}
}

// build adds a node with a number, and with parts from A on.
func (c *checker) build(at, kind, number int, parts ...int) int {
	n := blank(at, kind)
	n.N = number
	for i, field := range []*int{&n.A, &n.B, &n.C}[:len(parts)] {
		*field = parts[i]
	}
	return c.add(n)
}

// list is a list of the program. It is made from its last item on, for a node comes after its parts.
func (c *checker) list(items []int) int {
	rest := none
	for _, item := range slices.Backward(items) {
		rest = c.build(c.program.Nodes[item].At, tree.Item, 0, item, rest)
	}
	return rest
}

func (c *checker) whole(x api.Node) {
	switch x.Kind {
	case tree.Structure:
		c.structure(x)
	case tree.Whole:
		c.global(x)
	case tree.Function:
		c.head(x)
	}
}

func (c *checker) structure(x api.Node) {
	var l []types.Field
	for _, field := range c.nodes(x.A) {
		of, errno := c.number(field.Type)
		c.must(errno == api.OK, field.At, errno)
		l = append(l, types.Field{Name: field.Text, Type: of})
	}
	errno := c.table.Define(x.Text, l)
	c.must(errno == api.OK, x.At, errno)
}

func (c *checker) global(x api.Node) {
	_, twice := c.globals[x.Text]
	c.must(!twice, x.At, api.ErrName)
	of := c.typed(x)
	size, is := c.size(of)
	// The tree does not tell an initial value of 0 from none.
	c.must(is && (x.N == 0 || c.isNumber(of)), x.At, api.ErrType)
	at := c.program.Top
	c.must(at+size <= api.MaxWords, x.At, api.ErrLong)
	c.globals[x.Text] = variable{of, Num, at}
	first := word.Wrap(x.N)
	if of == (kind{base: api.Char}) {
		first, _ = word.Do(api.Low, first, 0)
	}
	c.program.Globals = append(c.program.Globals, api.Global{Name: x.Text, At: at, Size: size, Init: first})
	c.program.Top += size
}

// head takes in a function's signature.
func (c *checker) head(x api.Node) {
	_, twice := c.functions[x.Text]
	c.must(!twice, x.At, api.ErrName)
	s := signature{gives: c.typed(x), source: x}
	c.must(s.gives == kind{base: api.Void} || c.scalar(s.gives), x.At, api.ErrType)
	params := c.nodes(x.A)
	c.must(len(c.signatures) < api.MaxFuncs && len(params) <= api.MaxParams, x.At, api.ErrLong)
	seen := map[string]int{}
	for _, param := range params {
		seen[param.Text]++
		c.must(seen[param.Text] == 1, param.At, api.ErrName)
		of := c.typed(param)
		c.must(c.scalar(of), param.At, api.ErrType)
		s.params = append(s.params, parameter{of, param})
	}
	c.functions[x.Text] = len(c.signatures)
	c.signatures = append(c.signatures, s)
}

func (c *checker) hasMain() bool {
	k, is := c.functions["main"]
	return is && len(c.signatures[k].params) == 0 && c.signatures[k].gives == kind{base: api.Int}
}
