package lower_test

import (
	"math"
	"math/rand"
	"testing"

	"doppel/api"
	"doppel/code"
	"doppel/core"
	"doppel/lower"
	"doppel/tree"
)

// answered holds that there is an answer, the same one twice: valid code, or an error and nothing else.
func answered(t *testing.T, p core.Program) api.Errno {
	t.Helper()
	for k := range p.Funcs {
		f, errno := lower.Func(p, k)
		g, again := lower.Func(p, k)
		if errno != again || !code.Same(f, g) {
			t.Fatalf("two answers: errors %d and %d", errno, again)
		}
		if errno == api.OK && !code.RightFunc(f) || errno != api.OK && !zero(f) {
			t.Fatalf("error %d, and %v", errno, f)
		}
	}
	u, errno := lower.Of(p)
	if errno != api.OK && !empty(u) {
		t.Fatalf("error %d, and %v", errno, u)
	}
	return errno
}

// node is a node of a program, with parts from A on.
func node(kind, n int, parts ...int) api.Node {
	x := api.Node{Kind: kind, N: n, A: -1, B: -1, C: -1, D: -1}
	for i, field := range []*int{&x.A, &x.B, &x.C, &x.D}[:len(parts)] {
		*field = parts[i]
	}
	return x
}

// program is one whose main has the last node as its body.
func program(nodes ...api.Node) core.Program {
	return core.Program{Funcs: []core.Func{{Name: "main", Body: len(nodes) - 1}}, Top: 1, Nodes: nodes}
}

// TestProgramsMade holds that programs that core.Of does not make have an answer, too.
func TestProgramsMade(t *testing.T) {
	num, item := node(core.Num, 5), node(tree.Item, 0, 0)
	for what, p := range map[string]core.Program{
		"a body that is none": {Funcs: []core.Func{{Name: "f", Body: 7}}}, "a body below 0": {Funcs: []core.Func{{Name: "f", Body: math.MinInt}}}, "no body": {Funcs: []core.Func{{Name: "f"}}}, "an expression as the body": program(num),
		"a node in itself": program(node(tree.Block, 0, 0)), "nodes in one another": program(node(tree.Item, 0, 1, 1), node(tree.Block, 0, 0)),
		"break outside": program(node(tree.Break, 0), item, node(tree.Block, 0, 1)), "continue outside": program(node(tree.Continue, 0), item, node(tree.Block, 0, 1)), "case outside": program(node(tree.Empty, 0), node(tree.Case, 3, 0), node(tree.Item, 0, 1), node(tree.Block, 0, 2)), "default outside": program(node(tree.Empty, 0), node(tree.Default, 0, 0), node(tree.Item, 0, 1), node(tree.Block, 0, 2)), "goto nowhere": program(node(tree.Goto, 0), item, node(tree.Block, 0, 1)),
		"a number that is no word": program(node(core.Num, 1<<31), node(tree.Give, 0, 0), node(tree.Item, 0, 1), node(tree.Block, 0, 2)), "no operation on two": program(num, node(core.Two, int(api.Neg), 0, 0), node(tree.Give, 0, 1), node(tree.Item, 0, 2), node(tree.Block, 0, 3)), "no operation on one": program(num, node(core.One, 0, 0), node(tree.Give, 0, 1), node(tree.Item, 0, 2), node(tree.Block, 0, 3)), "a register that is not there": program(node(core.Reg, 0), node(tree.Give, 0, 0), node(tree.Item, 0, 1), node(tree.Block, 0, 2)),
		"no name": {Funcs: []core.Func{{}}, Nodes: []api.Node{node(tree.Block, 0)}}, "too many parameters": {Funcs: []core.Func{{Name: "f", Params: 7, Regs: 7}}, Nodes: []api.Node{node(tree.Block, 0)}}, "too great a frame": {Funcs: []core.Func{{Name: "f", Frame: 4097}}, Nodes: []api.Node{node(tree.Block, 0)}},
	} {
		if errno := answered(t, p); errno != api.ErrArg {
			t.Errorf("%s: error %d", what, errno)
		}
	}
	for what, p := range map[string]core.Program{"too many registers": {Funcs: []core.Func{{Name: "f", Regs: 4096}}, Nodes: []api.Node{node(tree.Block, 0)}}, "far too many": {Funcs: []core.Func{{Name: "f", Regs: math.MaxInt}}, Nodes: []api.Node{node(tree.Block, 0)}}} {
		if errno := answered(t, p); errno != api.ErrLong {
			t.Errorf("%s: error %d", what, errno)
		}
	}
	// Where nodes stand in two others again and again, they would be without end.
	expressions, statements := []api.Node{num}, []api.Node{node(tree.Block, 0)}
	for n := range 5000 {
		expressions = append(expressions, node(core.Two, int(api.Add), n, n))
		statements = append(statements, node(tree.Item, 0, 3*n), node(tree.Item, 0, 3*n, 3*n+1), node(tree.Block, 0, 3*n+2))
	}
	expressions = append(expressions, node(tree.Give, 0, 5000), node(tree.Item, 0, 5001), node(tree.Block, 0, 5002))
	for _, nodes := range [][]api.Node{expressions, statements} {
		if errno := answered(t, program(nodes...)); errno != api.ErrLong {
			t.Errorf("nodes in two others: error %d", errno)
		}
	}
}

// TestProgramsChanged holds that programs that are changed in one place have an answer, and that Of and its Funcs have the same errors.
func TestProgramsChanged(t *testing.T) {
	random := rand.New(rand.NewSource(9))
	p := made(t, broad).program
	numbers := append(huge(), 0, 1, 2, 7, 15, 20, 30, 35, 44)
	errors := map[api.Errno]int{}
	for range 1500 {
		n := random.Intn(len(p.Nodes))
		x := &p.Nodes[n]
		kept := *x
		field := []*int{&x.Kind, &x.A, &x.B, &x.C, &x.D, &x.N}[random.Intn(6)]
		*field = append(numbers, n-1, n, n+1, random.Intn(len(p.Nodes)), random.Intn(n+1))[random.Intn(len(numbers)+5)]
		errors[answered(t, p)]++
		*x = kept
	}
	for n := range p.Nodes {
		kept := p.Nodes[n].Text
		for _, text := range []string{"", "main", "b"} {
			p.Nodes[n].Text = text
			errors[answered(t, p)]++
		}
		p.Nodes[n].Text = kept
	}
	if errors[api.OK] == 0 || errors[api.ErrArg] == 0 {
		t.Error(errors)
	}
}
