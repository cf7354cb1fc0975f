package eval_test

import (
	"math"
	"math/rand"
	"strings"
	"testing"

	"doppel/api"
	"doppel/core"
	"doppel/eval"
	"doppel/tree"
)

// TestErrors holds that a source with an error has that error, and nothing else.
func TestErrors(t *testing.T) {
	for source, errno := range map[string]api.Errno{
		"$": api.ErrChar, "int main(){return '1;}": api.ErrChar, "int main(){}/*": api.ErrChar, "int main(){return 1x;}": api.ErrNumber, "int main(){return 4294967296;}": api.ErrNumber, strings.Repeat(" ", 1<<15+1): api.ErrLong, strings.Repeat(";", 1<<13+1): api.ErrLong,
		"int": api.ErrSyntax, "int main(){": api.ErrSyntax, "int main(){1+;}": api.ErrSyntax, "int main(){" + strings.Repeat("{", 101): api.ErrDeep, "int main(){return x;}": api.ErrName, "int main(){f();}": api.ErrName, "int main(){int*p=1;}": api.ErrType, "int main(){1=2;}": api.ErrType, "int main(){break;}": api.ErrFlow, "int main(){goto x;}": api.ErrFlow,
		"int f(){}": api.ErrMain, "": api.ErrMain, "void main(){}": api.ErrMain, "int main(int n){}": api.ErrMain,
	} {
		for _, fuel := range []int{-1, 0, 100, math.MaxInt} {
			if r, e := eval.Behaves(source, []byte("a"), fuel); e != errno || r.End != 0 || r.Code != 0 || len(r.Output) != 0 {
				t.Errorf("%.60q: error %d, %s; wanted %d", source, e, show(r), errno)
			}
		}
	}
}

// TestBehaves holds that a source does what its program does.
func TestBehaves(t *testing.T) {
	source := "int main(){int c=getc();while(c-->0)putc(65);return c;}"
	for fuel := range 60 {
		for _, input := range []string{"", "\x00", "\x01", "\x02"} {
			want(t, source, behaves(t, source, input, fuel), eval.Run(read(t, source), []byte(input), fuel))
		}
	}
}

// TestWithoutMain has programs that core.Of does not return, for they have no main.
func TestWithoutMain(t *testing.T) {
	p := read(t, "int g=3;int f(){putc(65);return 5;}int main(){return f();}")
	want(t, "with a main", eval.Run(p, nil, plenty), result(api.Exit, 5, "A"))
	for _, q := range []core.Program{{}, {Top: 1}, {Funcs: p.Funcs[:1], Globals: p.Globals, Top: p.Top, Nodes: p.Nodes}} {
		for _, fuel := range []int{-1, 0, 1, plenty, math.MaxInt} {
			want(t, "without a main", eval.Run(q, []byte("a"), fuel), exit(0))
		}
	}
}

// TestSame has results that differ in one thing each.
func TestSame(t *testing.T) {
	base := result(api.Exit, 5, "ab")
	for _, r := range []api.Result{
		result(api.Trap, 5, "ab"), result(0, 5, "ab"), result(api.Exit, 4, "ab"), result(api.Exit, -5, "ab"), result(api.Exit, 5+1<<32, "ab"), result(api.Exit, 5, ""), result(api.Exit, 5, "a"), result(api.Exit, 5, "abc"), result(api.Exit, 5, "ac"), result(api.Exit, 5, "bb"), result(api.Exit, 5, "ab\x00"), {End: api.Exit, Code: 5}, {},
	} {
		if eval.Same(base, r) || eval.Same(r, base) {
			t.Error("the same:", show(base), show(r))
		}
		if !eval.Same(r, r) {
			t.Error("not the same as itself:", show(r))
		}
	}
	if !eval.Same(base, result(api.Exit, 5, "ab")) || !eval.Same(api.Result{}, api.Result{Output: []byte{}}) || !eval.Same(result(api.Spent, 0, ""), api.Result{End: api.Spent}) {
		t.Error("not the same")
	}
	roomy := api.Result{End: api.Exit, Code: 5, Output: append(make([]byte, 0, 99), "ab"...)}
	if !eval.Same(base, roomy) || !eval.Same(roomy, base) {
		t.Error("not the same, with room behind the output")
	}
}

// TestBegins has outputs of which one is empty, the same, longer, shorter, or differs in one byte.
func TestBegins(t *testing.T) {
	outputs := []string{"", "a", "b", "ab", "ac", "abc", "abd", "bab", "\x00", "a\x00", "abc\x00", strings.Repeat("abc", 1000), strings.Repeat("abc", 1000) + "x", strings.Repeat("abc", 999) + "abd"}
	for _, a := range outputs {
		for _, b := range outputs {
			for end := range 5 {
				if eval.Begins(result(end, 3, a), result(api.Spent, end, b)) != strings.HasPrefix(b, a) {
					t.Errorf("%.20q, %.20q", a, b)
				}
			}
		}
	}
	if !eval.Begins(api.Result{}, api.Result{}) || !eval.Begins(api.Result{}, result(1, 2, "a")) || eval.Begins(result(1, 2, "a"), api.Result{}) {
		t.Error("outputs that are nil")
	}
}

// TestProgramsMade holds that a run of a program that core.Of did not make ends, too.
func TestProgramsMade(t *testing.T) {
	p := read(t, "int g=3;int f(int n){int a[2];&n;x:a[1]=n;if(n>0){n--;goto x;}return g+a[1];}int main(){int i;for(i=0;i<3&&i-7;i++){switch(i){case 1:continue;default:putc(f(i));}}while(i)do i--;while(0);return i?1:f(i)||getc();}")
	if r := eval.Run(p, nil, 1000); r.End != api.Exit {
		t.Fatal(show(r))
	}
	others := func(n int) []int {
		return []int{-7, -1, 0, 1, n - 1, n, n + 1, len(p.Nodes) - 1, len(p.Nodes), 1 << 40, math.MaxInt, math.MinInt}
	}
	change := func(field *int, to []int) {
		kept := *field
		for _, n := range to {
			*field = n
			a, b := eval.Run(p, nil, 300), eval.Run(p, nil, 300)
			if !equal(a, b) {
				t.Fatal("two results")
			}
		}
		*field = kept
	}
	for n := range p.Nodes {
		x := &p.Nodes[n]
		for _, field := range []*int{&x.A, &x.B, &x.C, &x.D, &x.N} {
			change(field, others(n))
		}
		kinds := []int{-1, 0, math.MaxInt, math.MinInt}
		for kind := range 55 {
			kinds = append(kinds, kind)
		}
		change(&x.Kind, kinds)
		text := x.Text
		for _, x.Text = range []string{"", "x", "main", "f", "none"} {
			eval.Run(p, nil, 300)
		}
		x.Text = text
	}
	for k := range p.Funcs {
		f := &p.Funcs[k]
		for _, field := range []*int{&f.Body, &f.Params, &f.Regs, &f.Frame} {
			change(field, others(5))
		}
	}
	for _, field := range []*int{&p.Top, &p.Globals[0].At, &p.Globals[0].Size, &p.Globals[0].Init} {
		change(field, others(4096))
	}
}

// scatter makes programs that are Right, of nodes at random: parts may be shared, and labels, loops and switches be missing.
type scatter struct {
	random *rand.Rand
	nodes  []api.Node
}

// part is one of the nodes of a kind from least to most, or none.
func (s *scatter) part(least, most int) int {
	var l []int
	for n, x := range s.nodes {
		if least <= x.Kind && x.Kind <= most {
			l = append(l, n)
		}
	}
	if len(l) == 0 {
		return -1
	}
	return l[s.random.Intn(len(l))]
}

func (s *scatter) node() {
	kinds := []int{core.Reg, core.Frame, core.Load, core.Store, core.Set, core.One, core.Two, core.Cond, core.And, core.Or, core.Call, core.In, core.Out, core.Then, tree.Do, tree.If, tree.While, tree.DoWhile, tree.For, tree.Break, tree.Continue, tree.Give, tree.Goto, tree.Label, tree.Switch, tree.Case, tree.Default, tree.Block, tree.Block, tree.Empty, tree.Item, tree.Item, tree.Item, tree.Item}
	e := func() int { return s.part(core.Num, core.Then) }
	statement := func() int { return s.part(tree.Do, tree.Empty) }
	x := api.Node{Kind: kinds[s.random.Intn(len(kinds))], A: e(), B: e(), C: e(), D: statement(), N: s.random.Intn(3), Text: []string{"main", "x"}[s.random.Intn(2)]}
	switch x.Kind {
	case core.One:
		x.N = int(api.Neg)
	case core.Two:
		x.N = 1 + s.random.Intn(19)
	case core.Call:
		x.A, x.Text = -1, "main"
	case tree.If:
		x.B, x.C = statement(), statement()
	case tree.While, tree.DoWhile:
		x.B = statement()
	case tree.Label, tree.Case, tree.Default:
		x.A = statement()
	case tree.Switch:
		x.B = s.part(tree.Block, tree.Block)
	case tree.Item:
		x.A, x.B = statement(), s.part(tree.Item, tree.Item)
	case tree.Block:
		x.A = s.part(tree.Item, tree.Item)
	}
	s.nodes = append(s.nodes, x)
}

// TestNodesAtRandom holds the same for programs of any nodes.
func TestNodesAtRandom(t *testing.T) {
	random := rand.New(rand.NewSource(3))
	ends := map[int]int{}
	for range 20000 {
		s := &scatter{random, []api.Node{node(core.Num, 1), node(core.Num, 0), node(core.Num, 5000), node(tree.Empty, 0)}}
		for range 1 + random.Intn(60) {
			s.node()
		}
		s.nodes = append(s.nodes, node(tree.Block, 0, s.part(tree.Item, tree.Item)))
		p := core.Program{Funcs: []core.Func{{Name: "main", Regs: 3, Frame: 40, Body: len(s.nodes) - 1}}, Top: 1, Nodes: s.nodes}
		if core.Right(p) {
			ends[eval.Run(p, []byte("ab"), 2000).End]++
		}
	}
	for end := range 5 {
		if ends[end] < 10 {
			t.Error("hardly a run ends with", end, ends)
		}
	}
}
