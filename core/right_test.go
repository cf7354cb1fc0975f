package core_test

import (
	"math"
	"testing"

	"doppel/api"
	"doppel/core"
	"doppel/tree"
)

// changed is a copy of a program in which one thing is changed.
func changed(p core.Program, change func(p *core.Program)) core.Program {
	p.Funcs = append([]core.Func{}, p.Funcs...)
	p.Globals = append([]api.Global{}, p.Globals...)
	p.Nodes = append([]api.Node{}, p.Nodes...)
	change(&p)
	return p
}

// right is Right, as the chapter says it.
func right(p core.Program) bool {
	for n := range p.Nodes {
		if !rightNode(p, n) {
			return false
		}
	}
	for _, f := range p.Funcs {
		if f.Body < 0 || f.Body >= len(p.Nodes) || p.Nodes[f.Body].Kind != tree.Block || f.Params > f.Regs || f.Params < 0 || f.Frame < 0 || !within(p, f, f.Body) {
			return false
		}
	}
	return true
}

// is tells whether a number is that of a node ahead of another one that may be a part of that sort.
func is(p core.Program, n, above int, sort byte) bool {
	return 0 <= n && n < above && may(sort, p.Nodes[n].Kind)
}

// rightList tells whether a number is that of a list ahead of a node, and how many items it has.
func rightList(p core.Program, n, above int, sort byte) (int, bool) {
	if n == -1 {
		return 0, true
	}
	if n < 0 || n >= above || p.Nodes[n].Kind != tree.Item || !is(p, p.Nodes[n].A, n, sort) {
		return 0, false
	}
	rest, right := rightList(p, p.Nodes[n].B, n, sort)
	return rest + 1, right
}

func rightNode(p core.Program, n int) bool {
	x := p.Nodes[n]
	if x.Kind == tree.Item {
		rest := x.B == -1 || 0 <= x.B && x.B < n && p.Nodes[x.B].Kind == tree.Item
		return rest && (is(p, x.A, n, 'e') || is(p, x.A, n, 's'))
	}
	f, _ := formOf(x.Kind)
	for i, part := range fieldsOf(x) {
		if i >= len(f.parts) {
			continue
		}
		switch sort := f.parts[i]; sort {
		case 'x', 'y':
			items, right := rightList(p, part, n, sort)
			if !right || sort == 'x' && !calledRight(p, x.Text, items) {
				return false
			}
		case 'E', 'S':
			if part != -1 && !is(p, part, n, sort+'a'-'A') {
				return false
			}
		default:
			if !is(p, part, n, sort) {
				return false
			}
		}
	}
	return true
}

func calledRight(p core.Program, name string, arguments int) bool {
	for _, f := range p.Funcs {
		if f.Name == name {
			return f.Params == arguments
		}
	}
	return false
}

// within tells whether a function has all registers and words that a node and its parts name.
func within(p core.Program, f core.Func, n int) bool {
	x := p.Nodes[n]
	if (x.Kind == core.Reg || x.Kind == core.Set) && (x.N < 0 || x.N >= f.Regs) || x.Kind == core.Frame && (x.N < 0 || x.N >= f.Frame) {
		return false
	}
	if x.Kind == tree.Item {
		return within(p, f, x.A) && (x.B == -1 || within(p, f, x.B))
	}
	g, _ := formOf(x.Kind)
	for i, part := range fieldsOf(x) {
		if i < len(g.parts) && part != -1 && !within(p, f, part) {
			return false
		}
	}
	return true
}

// small is a source with most kinds of nodes.
const small = `int g;int f(int a,char b){int c;int d[3];&a;c=a?b:-c;return d[1]+=c;}void n(){}
int main(){int i=getc();while(i&&1||0){i--;break;}for(i=0;i<3;++i)continue;do n();while(0);for(;;){if(i)goto x;else;}x:switch(i){case 1:;default:putc(f(1,2));}n();g=f(i,i);return g;}`

func TestRightOfOthers(t *testing.T) {
	for _, p := range []core.Program{{}, {Top: 1}, read(t, small), read(t, broad), {Nodes: []api.Node{{Kind: core.Num}}}, {Funcs: []core.Func{{Name: "f"}}, Nodes: []api.Node{{Kind: tree.Block, A: -1}}}} {
		if !core.Right(p) || !right(p) {
			t.Errorf("not Right: %v", p)
		}
	}
	for _, p := range []core.Program{{Funcs: []core.Func{{}}}, {Funcs: []core.Func{{Body: -1}}}, {Nodes: []api.Node{{Kind: tree.Do, A: 0}}}, {Nodes: []api.Node{{Kind: tree.Item, A: -1, B: -1}}}} {
		if core.Right(p) || right(p) {
			t.Errorf("Right: %v", p)
		}
	}
}

// TestRightOfChanged holds Right of programs that are changed in one place.
func TestRightOfChanged(t *testing.T) {
	p := read(t, small)
	rights := 0
	hold := func(what string, n int, change func(p *core.Program)) {
		q := changed(p, change)
		want := right(q)
		if want {
			rights++
		}
		if got := core.Right(q); got != want {
			t.Errorf("%s %d: %v; wanted %v: %v", what, n, got, want, q)
		}
	}
	for n, x := range p.Nodes {
		for _, to := range []int{-2, -1, 0, 1, n / 2, n - 2, n - 1, n, n + 1, len(p.Nodes) - 1, len(p.Nodes), math.MaxInt, math.MinInt} {
			hold("A of", n, func(p *core.Program) { p.Nodes[n].A = to })
			hold("B of", n, func(p *core.Program) { p.Nodes[n].B = to })
			hold("C of", n, func(p *core.Program) { p.Nodes[n].C = to })
			hold("D of", n, func(p *core.Program) { p.Nodes[n].D = to })
			hold("At of", n, func(p *core.Program) { p.Nodes[n].At = to })
		}
		for kind := -1; kind < 60; kind++ {
			hold("Kind of", n, func(p *core.Program) { p.Nodes[n].Kind = kind })
		}
		if x.Kind == core.Reg || x.Kind == core.Set || x.Kind == core.Frame {
			for _, to := range []int{-1, 0, 1, 2, 3, 4, 5, 6, math.MaxInt, math.MinInt} {
				hold("N of", n, func(p *core.Program) { p.Nodes[n].N = to })
			}
		}
		for _, name := range []string{"", "f", "n", "main", "g", "x"} {
			hold("Text of", n, func(p *core.Program) { p.Nodes[n].Text = name })
		}
	}
	for k, f := range p.Funcs {
		for by := -7; by < 7; by++ {
			hold("Params of", k, func(p *core.Program) { p.Funcs[k].Params += by })
			hold("Regs of", k, func(p *core.Program) { p.Funcs[k].Regs += by })
			hold("Frame of", k, func(p *core.Program) { p.Funcs[k].Frame += by })
		}
		for n := -1; n <= len(p.Nodes); n++ {
			hold("Body of", k, func(p *core.Program) { p.Funcs[k].Body = n })
		}
		hold("Name of", k, func(p *core.Program) { p.Funcs[k].Name = "other" })
		hold("without", k, func(p *core.Program) { p.Funcs = append(p.Funcs[:k:k], p.Funcs[k+1:]...) })
		if f.Body < 0 {
			t.Error("Body:", f)
		}
	}
	if rights < 100 {
		t.Error("only", rights, "of them may be")
	}
}

// TestRightAtEdges holds what the chapter says of Right, each with a program that differs from one that may be in this alone.
func TestRightAtEdges(t *testing.T) {
	p := read(t, small)
	find := func(kind int) int {
		for n, x := range p.Nodes {
			if x.Kind == kind {
				return n
			}
		}
		t.Fatal("no node of the kind", kind)
		return -1
	}
	reg, set, frame, call := find(core.Reg), find(core.Set), find(core.Frame), find(core.Call)
	two, do, while, block := find(core.Two), find(tree.Do), find(tree.While), find(tree.Block)
	f := p.Funcs[0]
	if f.Regs != 4 || f.Frame != 4 || f.Params != 2 {
		t.Fatal("f:", f)
	}
	for name, change := range map[string]func(p *core.Program){
		"the register behind the last one":      func(p *core.Program) { p.Nodes[reg].N = f.Regs },
		"a register below 0":                    func(p *core.Program) { p.Nodes[reg].N = -1 },
		"a set register behind the last one":    func(p *core.Program) { p.Nodes[set].N = f.Regs },
		"a set register below 0":                func(p *core.Program) { p.Nodes[set].N = -1 },
		"the word behind the last one":          func(p *core.Program) { p.Nodes[frame].N = f.Frame },
		"a word below 0":                        func(p *core.Program) { p.Nodes[frame].N = -1 },
		"fewer registers than parameters":       func(p *core.Program) { p.Funcs[1].Params, p.Funcs[1].Regs = 0, -1 },
		"a call of a function that is not":      func(p *core.Program) { p.Nodes[call].Text = "no" },
		"a call of one with more parameters":    func(p *core.Program) { p.Nodes[call].Text = "f" },
		"a statement where an expression stood": func(p *core.Program) { p.Nodes[two].A = do },
		"a list where an expression stood":      func(p *core.Program) { p.Nodes[two].A = p.Nodes[block].A },
		"itself as a part":                      func(p *core.Program) { p.Nodes[two].A = two },
		"a part behind it":                      func(p *core.Program) { p.Nodes[two].A = two + 1 },
		"no part":                               func(p *core.Program) { p.Nodes[two].A = -1 },
		"an expression where a statement stood": func(p *core.Program) { p.Nodes[while].B = p.Nodes[while].A },
		"a statement where a list stood":        func(p *core.Program) { p.Nodes[block].A = do },
		"an expression in a list of statements": func(p *core.Program) { p.Nodes[p.Nodes[block].A].A = 0 },
		"a body that is none":                   func(p *core.Program) { p.Funcs[0].Body = do },
	} {
		q := changed(p, change)
		if core.Right(q) || right(q) {
			t.Errorf("%s: Right", name)
		}
	}
	for name, change := range map[string]func(p *core.Program){
		"the last register": func(p *core.Program) { p.Nodes[reg].N = f.Regs - 1 },
		"the last word":     func(p *core.Program) { p.Nodes[frame].N = f.Frame - 1 },
		"another function":  func(p *core.Program) { p.Nodes[call].Text = "main" },
		"an empty block":    func(p *core.Program) { p.Nodes[block].A = -1 },
		"more registers":    func(p *core.Program) { p.Funcs[0].Regs++ },
		"more words":        func(p *core.Program) { p.Funcs[0].Frame++ },
	} {
		if !core.Right(changed(p, change)) {
			t.Errorf("%s: not Right", name)
		}
	}
}

// TestRightOfShared holds that a program has an answer soon, however often its nodes are in others.
func TestRightOfShared(t *testing.T) {
	nodes := []api.Node{{Kind: core.Num, A: -1, B: -1, C: -1, D: -1}}
	for n := range 3000 {
		nodes = append(nodes, api.Node{Kind: core.Two, N: int(api.Add), A: n, B: n, C: -1, D: -1})
	}
	nodes = append(nodes, api.Node{Kind: tree.Do, A: 3000}, api.Node{Kind: tree.Item, A: 3001, B: -1})
	for n := range 3000 {
		nodes = append(nodes, api.Node{Kind: tree.Item, A: 3001, B: 3002 + n})
	}
	nodes = append(nodes, api.Node{Kind: tree.Block, A: len(nodes) - 1})
	p := core.Program{Funcs: []core.Func{{Name: "main", Body: len(nodes) - 1}}, Top: 1, Nodes: nodes}
	if !core.Right(p) {
		t.Error("not Right")
	}
	core.Print(p)
	p.Nodes[0] = api.Node{Kind: core.Reg, N: 0}
	if core.Right(p) {
		t.Error("Right, with a register that is not there")
	}
}
