package eval_test

import (
	"math"
	"strings"
	"testing"

	"doppel/api"
	"doppel/core"
	"doppel/eval"
	"doppel/tree"
)

// The functions that are called, and a global.
const callable = "int g;int f(){return 3;}int id(int n){return n;}int sum(int a,int b){return a+b;}void v(){}int own(int n){return *&n;}"

// TestFuelOfStatements has what main's statements use, beside 2 for its body and the block within.
func TestFuelOfStatements(t *testing.T) {
	for statements, fuel := range map[string]int{
		"": 0, ";": 1, "{}": 1, "{;;}": 3, "1;": 2, "int a;": 3, "int a=1;": 3, "int a[3];": 1, "return;": 1, "return 1;": 2, "return 1;;;": 2,
		"if(1);": 3, "if(0);": 2, "if(1);else 1;": 3, "if(0);else 1;": 4, "x:;": 2, "x:y:;": 3,
		"while(0);": 2, "while(1)break;": 3, "while(1)return 0;": 4, "int i=0;while(i<2)i=i+1;": 3 + 1 + 3*3 + 2*5,
		"do;while(0);": 3, "do break;while(1);": 2, "do continue;while(0);": 3, "int i=0;do i=i+1;while(i<2);": 3 + 1 + 2*5 + 2*3,
		// A for without a condition uses 1 in place of it, in each turn.
		"for(;0;);": 2, "for(1;0;1);": 3, "for(;;)break;": 3, "for(;1;)break;": 3, "for(1;;)break;": 4, "for(;;1)break;": 3, "for(;;)return 0;": 4,
		"int i=0;for(;i<2;i=i+1);": 3 + 1 + 3*3 + 2*(1+4), "int i=0;for(;;i=i+1)if(i)break;": 3 + 1 + (1 + 2) + 4 + (1 + 2 + 1), "int i=0;for(;;){i=i+1;if(i==2)break;}": 3 + 1 + 2*(1+1+5+4) + 1, "int i=0;for(;;i=i+1){if(i)break;continue;}": 3 + 1 + (1 + 1 + 2 + 1) + 4 + (1 + 1 + 2 + 1),
		// A goto uses 2, and begins the label, but nothing that is around it.
		"goto x;x:;": 4, "goto x;;;x:;": 4, "goto x;{;x:;;}": 5, "goto x;{{{x:;}}}": 4, "goto x;if(1)x:;": 4, "goto x;if(1);else x:;": 4, "goto x;while(0){x:;}": 5, "goto x;do x:;while(0);": 5, "goto x;for(1;0;1)x:;": 6, "goto x;for(1;;1)x:break;": 4, "goto x;y:x:;": 4, "goto x;switch(1){x:;}": 4, "goto x;switch(1){case 1:x:;}": 4,
		"int n=0;x:if(n)return 0;n=1;goto x;": 3 + 3 + 3 + 2 + 3 + 2, "int n=0;for(;;1){if(n)break;n=1;goto x;x:;}": 3 + 1 + (1 + 1 + 2 + 3 + 2 + 2) + 1 + (1 + 1 + 2 + 1),
		// A switch does not begin its block, but the case.
		"switch(1){}": 2, "switch(1){;}": 2, "switch(1){case 2:;}": 2, "switch(1){case 1:;}": 4, "switch(1){;case 1:;;}": 5, "switch(1){case 1:break;}": 4, "switch(1){case 1:case 2:;}": 5, "switch(2){case 1:case 2:;}": 4, "switch(1){default:;}": 4, "switch(1){case 2:default:;}": 4, "switch(2){case 2:default:;}": 5, "switch(1){default:;case 1:;}": 4, "switch(1){while(0){case 1:;}}": 5, "switch(1){for(1;0;1){case 1:;}}": 6, "switch(1){{{case 1:;}}}": 4,
	} {
		source := "int main(){" + statements + "}"
		uses(t, source, read(t, source), 2+fuel)
	}
}

// TestFuelOfExpressions has what an expression uses, beside 3 for main's body, the block and the statement.
func TestFuelOfExpressions(t *testing.T) {
	for expression, fuel := range map[string]int{
		"1": 1, "-1": 2, "!1": 2, "~1": 2, "(char)1": 2, "(int)1": 1, "- -1": 3, "1+2": 3, "1+2*3": 5, "1<2": 3, "1>2": 4, "1/1": 3, "sizeof(int)": 1,
		"1&&2": 3, "0&&2": 2, "1||2": 2, "0||2": 3, "1&&0&&1": 4, "0&&1||1": 4, "1?2:3+4": 3, "0?2:3+4": 5, "1&&1+1": 5,
		"g": 2, "g=1": 3, "g=g": 4, "*&g": 2, "*(int*)7": 2, "*(int*)7=1": 3, "getc()": 1, "putc(1)": 2, "putc(1+2)": 4,
		// A call uses 1, and then its arguments and the function's body, its block and its statements do.
		"v()": 1 + 2, "f()": 1 + 2 + 2, "id(1)": 2 + 2 + 2, "sum(1,2)": 3 + 2 + 4, "sum(1,f())": 7 + 2 + 4, "id(id(1))": 7 + 2 + 2, "own(1)": 2 + 1 + 4 + 1 + 3,
	} {
		source := callable + "int main(){" + expression + ";}"
		uses(t, source, read(t, source), 3+fuel)
	}
	for source, fuel := range map[string]int{
		"int main(){int a=1;return a;}": 2 + 3 + 2, "int main(){int a;a=2;return a;}": 2 + 3 + 3 + 2, "int main(){int a;&a;return a;}": 2 + 4 + 2 + 3, "int main(){return 1/0;}": 6, "int main(){return *(int*)0;}": 5, "int main(){*(int*)0=1;}": 6,
		"int f(int n){if(n)return f(n-1);return 0;}int main(){return f(2);}": 2 + 1 + 2 + 2*(2+2+1+4) + (2 + 2 + 2),
	} {
		uses(t, source, read(t, source), fuel)
	}
}

// returns is a program whose main returns an expression: the last one of the nodes.
func returns(nodes ...api.Node) core.Program {
	last := len(nodes) - 1
	nodes = append(nodes, api.Node{Kind: tree.Give, A: last, B: -1, C: -1, D: -1}, api.Node{Kind: tree.Item, A: last + 1, B: -1, C: -1, D: -1}, api.Node{Kind: tree.Block, A: last + 2, B: -1, C: -1, D: -1})
	return core.Program{Funcs: []core.Func{{Name: "main", Regs: 2, Frame: 2, Body: last + 3}}, Top: 9, Nodes: nodes}
}

func node(kind, n int, parts ...int) api.Node {
	x := api.Node{Kind: kind, N: n, A: -1, B: -1, C: -1, D: -1}
	for i, field := range []*int{&x.A, &x.B, &x.C}[:len(parts)] {
		*field = parts[i]
	}
	return x
}

// TestKindsOfExpressions has each kind by itself: its value, and what it uses beside 2 for the body and the return.
func TestKindsOfExpressions(t *testing.T) {
	num := func(n int) api.Node { return node(core.Num, n) }
	for i, c := range []struct {
		p           core.Program
		value, fuel int
	}{
		{returns(num(-5)), -5, 1},
		{returns(node(core.Reg, 1)), 0, 1},
		{returns(node(core.Frame, 1)), 10, 1},
		{returns(num(7), node(core.Load, 0, 0)), 0, 2},
		{returns(num(7), num(6), node(core.Store, 0, 0, 1)), 6, 3},
		{returns(num(6), node(core.Set, 1, 0)), 6, 2},
		{returns(num(6), node(core.Set, 1, 0), node(core.Reg, 1), node(core.Then, 0, 1, 2)), 6, 4},
		{returns(num(7), num(6), node(core.Store, 0, 0, 1), num(7), node(core.Load, 0, 3), node(core.Then, 0, 2, 4)), 6, 6},
		{returns(num(5), num(6), node(core.Then, 0, 0, 1)), 6, 3},
		{returns(num(5), node(core.One, int(api.Neg), 0)), -5, 2},
		{returns(num(5), num(3), node(core.Two, int(api.Sub), 0, 1)), 2, 3},
		{returns(num(5), num(6), num(7), node(core.Cond, 0, 0, 1, 2)), 6, 3},
		{returns(num(0), num(6), num(7), node(core.Cond, 0, 0, 1, 2)), 7, 3},
		{returns(num(5), num(6), node(core.And, 0, 0, 1)), 1, 3},
		{returns(num(5), num(0), node(core.And, 0, 0, 1)), 0, 3},
		{returns(num(0), num(6), node(core.And, 0, 0, 1)), 0, 2},
		{returns(num(5), num(6), node(core.Or, 0, 0, 1)), 1, 2},
		{returns(num(0), num(6), node(core.Or, 0, 0, 1)), 1, 3},
		{returns(num(0), num(0), node(core.Or, 0, 0, 1)), 0, 3},
		{returns(node(core.In, 0)), -1, 1},
		{returns(num(-1), node(core.Out, 0, 0)), 255, 2},
	} {
		if r := eval.Run(c.p, nil, plenty); r.End != api.Exit || r.Code != c.value {
			t.Errorf("%d: %s; wanted %d", i, show(r), c.value)
		}
		uses(t, "program "+string(rune('a'+i)), c.p, 2+c.fuel)
	}
}

// TestFuelAtItsEnds has a fuel of 0 and less, and of 10^6 and more.
func TestFuelAtItsEnds(t *testing.T) {
	for _, fuel := range []int{0, -1, -2, math.MinInt, math.MinInt + 1, -1 << 32} {
		want(t, "with a fuel of 0 or less", behaves(t, "int main(){putc(65);return 7;}", "", fuel), result(api.Spent, 0, ""))
		want(t, "a fuel of 0 or less, no main", eval.Run(core.Program{}, nil, fuel), exit(0))
	}
	// The least that a run can use: its body.
	body := core.Program{Funcs: []core.Func{{Name: "main"}}, Top: 1, Nodes: []api.Node{node(tree.Block, 0)}}
	uses(t, "an empty body", body, 1)
	// This uses 9 + 8n, and 1 for each further statement: 10^6 are enough, and no more than that are given.
	const counts = "int main(){int i=0;while(i<124998)i=i+1;"
	exactly, more := counts+strings.Repeat(";", 7)+"}", counts+strings.Repeat(";", 8)+"}"
	for _, fuel := range []int{1_000_000, 1_000_001, 1_000_008, 2_000_000, 1 << 32, math.MaxInt} {
		want(t, exactly, behaves(t, exactly, "", fuel), exit(0))
		want(t, more, behaves(t, more, "", fuel), result(api.Spent, 0, ""))
	}
	want(t, exactly, behaves(t, exactly, "", 999_999), result(api.Spent, 0, ""))
	// Each turn uses 4, after 3 for the beginning.
	for fuel, bytes := range map[int]int{6: 0, 7: 1, 10: 1, 11: 2, 999_998: 249_998, 999_999: 249_999, 1_000_000: 249_999, 1_000_003: 249_999, 1 << 40: 249_999} {
		source := "int main(){for(;;)putc(65);}"
		want(t, source, behaves(t, source, "", fuel), result(api.Spent, 0, strings.Repeat("A", bytes)))
	}
}

// TestOutputUntilSpent holds that what went out ahead of the end of the fuel is there, and nothing else.
func TestOutputUntilSpent(t *testing.T) {
	const source = "int main(){putc(65);putc(66);return putc(67);}"
	for fuel, output := range []string{"", "", "", "", "", "A", "A", "A", "AB", "AB", "AB"} {
		want(t, source, behaves(t, source, "", fuel), result(api.Spent, 0, output))
	}
	want(t, source, behaves(t, source, "", 11), result(api.Exit, 67, "ABC"))
}
