package core_test

import (
	"math/rand"
	"strconv"
	"strings"
	"testing"

	"doppel/api"
	"doppel/core"
	"doppel/lex"
	"doppel/tree"
)

// TestPrintOfChanged holds that programs that differ in one thing have texts that differ.
func TestPrintOfChanged(t *testing.T) {
	for _, source := range []string{small, "struct s{int a[3];};struct s g;char h=7;int main(){}"} {
		p := read(t, source)
		texts := map[string]string{core.Print(p): "nothing"}
		hold := func(what string, n int, change func(p *core.Program)) {
			what += " " + strconv.Itoa(n)
			text := core.Print(changed(p, change))
			if other := texts[text]; other != "" {
				t.Fatalf("%s changed, and %s changed, have the same text", what, other)
			}
			texts[text] = what
		}
		for n, x := range p.Nodes {
			hold("Kind of", n, func(p *core.Program) { p.Nodes[n].Kind += 100 })
			hold("N of", n, func(p *core.Program) { p.Nodes[n].N += 1000 })
			hold("-N of", n, func(p *core.Program) { p.Nodes[n].N -= 1000 })
			hold("Type of", n, func(p *core.Program) { p.Nodes[n].Type++ })
			if x.Kind != core.Reg && x.Kind != core.Set {
				hold("Text of", n, func(p *core.Program) { p.Nodes[n].Text += "x" })
			}
			// What a part was is in no other node then.
			for field, name := range []string{"A of", "B of", "C of", "D of"} {
				hold(name, n, func(p *core.Program) { *[]*int{&p.Nodes[n].A, &p.Nodes[n].B, &p.Nodes[n].C, &p.Nodes[n].D}[field] = -5 })
			}
		}
		for k := range p.Funcs {
			hold("Name of", k, func(p *core.Program) { p.Funcs[k].Name += "x" })
			hold("Params of", k, func(p *core.Program) { p.Funcs[k].Params += 100 })
			hold("Regs of", k, func(p *core.Program) { p.Funcs[k].Regs += 100 })
			hold("Frame of", k, func(p *core.Program) { p.Funcs[k].Frame += 100 })
			hold("Body of", k, func(p *core.Program) { p.Funcs[k].Body = -1 })
			hold("without function", k, func(p *core.Program) { p.Funcs = append(p.Funcs[:k:k], p.Funcs[k+1:]...) })
		}
		for k := range p.Globals {
			hold("global Name of", k, func(p *core.Program) { p.Globals[k].Name += "x" })
			hold("At of", k, func(p *core.Program) { p.Globals[k].At += 100 })
			hold("Size of", k, func(p *core.Program) { p.Globals[k].Size += 100 })
			hold("Init of", k, func(p *core.Program) { p.Globals[k].Init += 100 })
			hold("without global", k, func(p *core.Program) { p.Globals = append(p.Globals[:k:k], p.Globals[k+1:]...) })
		}
		hold("Top", 0, func(p *core.Program) { p.Top++ })
		hold("another node", 0, func(p *core.Program) { p.Nodes = append(p.Nodes, api.Node{}) })
		hold("another function", 0, func(p *core.Program) { p.Funcs = append(p.Funcs, core.Func{Body: -1}) })
		hold("another global", 0, func(p *core.Program) { p.Globals = append(p.Globals, api.Global{}) })
	}
}

// TestPrintOfOthers holds programs whose texts would be the same if they had no quotes, spaces or places.
func TestPrintOfOthers(t *testing.T) {
	leaf := func(kind, n int, text string) api.Node {
		return api.Node{Kind: kind, A: -1, B: -1, C: -1, D: -1, N: n, Text: text}
	}
	two := func(a, b int) api.Node { return api.Node{Kind: core.Two, A: a, B: b, C: -1, D: -1, N: 1} }
	texts := map[string]int{}
	for i, p := range []core.Program{
		{}, {Top: 1}, {Top: 11}, {Top: -1}, {Funcs: []core.Func{{}}}, {Funcs: []core.Func{{Body: -1}}}, {Funcs: []core.Func{{Body: -2}}}, {Funcs: []core.Func{{Params: 1}}}, {Funcs: []core.Func{{Params: 1, Regs: 11}}}, {Funcs: []core.Func{{Params: 11, Regs: 1}}}, {Funcs: []core.Func{{}, {}}},
		{Funcs: []core.Func{{Name: "a"}}}, {Funcs: []core.Func{{Name: "a\""}}}, {Funcs: []core.Func{{Name: "a\" 0"}}}, {Funcs: []core.Func{{Name: "a\n"}}}, {Funcs: []core.Func{{Name: "a\\n"}}}, {Funcs: []core.Func{{Name: "\xff"}}}, {Funcs: []core.Func{{Name: "\\xff"}}}, {Funcs: []core.Func{{Name: "\ufffd"}}}, {Funcs: []core.Func{{Name: "\x00"}}}, {Funcs: []core.Func{{Name: " "}}}, {Funcs: []core.Func{{Name: "  "}}},
		{Globals: []api.Global{{}}}, {Globals: []api.Global{{Name: "a"}}}, {Globals: []api.Global{{At: 1}}}, {Globals: []api.Global{{Size: 1}}}, {Globals: []api.Global{{Init: 1}}}, {Globals: []api.Global{{Init: -1}}}, {Globals: []api.Global{{At: 1, Size: 11}}}, {Globals: []api.Global{{At: 11, Size: 1}}},
		{Nodes: []api.Node{leaf(core.Num, 1, "")}}, {Nodes: []api.Node{leaf(core.Num, -1, "")}}, {Nodes: []api.Node{leaf(core.Reg, 1, "")}}, {Nodes: []api.Node{leaf(core.Frame, 1, "")}}, {Nodes: []api.Node{leaf(core.Num, 1, "1")}}, {Nodes: []api.Node{leaf(core.Num, 11, "")}}, {Nodes: []api.Node{leaf(core.Num, 1, ""), leaf(core.Num, 1, "")}}, {Nodes: []api.Node{leaf(core.Num, 1, ""), leaf(core.Num, 2, "")}}, {Nodes: []api.Node{leaf(tree.Goto, 0, "a")}}, {Nodes: []api.Node{leaf(tree.Goto, 0, "b")}}, {Nodes: []api.Node{leaf(tree.Goto, 0, "")}}, {Nodes: []api.Node{leaf(tree.Break, 0, "")}}, {Nodes: []api.Node{leaf(tree.Continue, 0, "")}}, {Nodes: []api.Node{leaf(core.In, 0, "")}},
		{Nodes: []api.Node{leaf(1, 1, ""), leaf(1, 2, ""), two(0, 1)}}, {Nodes: []api.Node{leaf(1, 1, ""), leaf(1, 2, ""), two(1, 0)}}, {Nodes: []api.Node{leaf(1, 1, ""), leaf(1, 2, ""), two(0, -1)}}, {Nodes: []api.Node{leaf(1, 1, ""), leaf(1, 2, ""), two(-1, 0)}}, {Nodes: []api.Node{leaf(1, 1, ""), leaf(1, 2, ""), two(-1, -1)}},
		{Nodes: []api.Node{leaf(1, 1, ""), leaf(1, 1, ""), two(0, 1), leaf(1, 1, ""), two(2, 3)}}, {Nodes: []api.Node{leaf(1, 1, ""), leaf(1, 1, ""), leaf(1, 1, ""), two(1, 2), two(0, 3)}},
	} {
		text := core.Print(p)
		if other, is := texts[text]; is {
			t.Errorf("%d and %d have the same text: %q", other, i, text)
		}
		texts[text] = i
	}
}

// TestPrintOfSame holds that the names of registers and the positions of nodes are not in the text.
func TestPrintOfSame(t *testing.T) {
	random := rand.New(rand.NewSource(5))
	for _, source := range []string{small, broad, "int main(){}"} {
		p := read(t, source)
		q := changed(p, func(p *core.Program) {
			for n := range p.Nodes {
				p.Nodes[n].At = random.Int() - random.Int()
				if kind := p.Nodes[n].Kind; kind == core.Reg || kind == core.Set {
					p.Nodes[n].Text = "name" + strconv.Itoa(random.Int())
				}
			}
		})
		if core.Print(p) != core.Print(q) {
			t.Errorf("%.50q: names of registers, or positions, are in the text", source)
		}
	}
}

// TestPrintOfSources holds that sources that mean other things have other texts.
func TestPrintOfSources(t *testing.T) {
	texts := map[string]string{}
	for _, source := range []string{
		"int main(){}", "int main(){return 0;}", "int main(){return 1;}", "int main(){return;}", "int main(){;}", "int main(){{}}", "int main(){int a;}", "int main(){int a=1;}", "int main(){int a[2];}", "int main(){int a;int b;return a;}", "int main(){int a;int b;return b;}", "int main(){int a;&a;}", "int g;int main(){}", "int h;int main(){}", "int g=1;int main(){}", "int g[2];int main(){}", "int f(){}int main(){}", "int main(){}int f(){}", "int f(int a){}int main(){}",
		"int main(){x:goto x;}", "int main(){y:goto y;}", "int main(){x:;y:goto x;}", "int main(){x:;y:goto y;}", "int main(){return 1+2*3;}", "int main(){return (1+2)*3;}", "int main(){return 1-(2-3);}", "int main(){return 1-2-3;}", "int main(){if(1)if(2);else;}", "int main(){if(1){if(2);}else;}", "int main(){while(1);}", "int main(){for(;1;);}", "int main(){do;while(1);}", "int main(){for(1;;);}", "int main(){for(;;1);}", "int main(){for(;;);}",
		"int main(){switch(1){case 1:;}}", "int main(){switch(1){case 2:;}}", "int main(){switch(1){case -1:;}}", "int main(){switch(1){default:;}}", "int main(){switch(1){case 1:;case 2:;}}", "int main(){switch(1){case 1:case 2:;}}", "int main(){return 1&&2;}", "int main(){return 1||2;}", "int main(){return 1&2;}", "int main(){return 1|2;}", "int main(){return 2&&1;}", "int main(){return getc();}", "int main(){return putc(1);}", "int main(){return putc(2);}", "int main(){return 1?2:3;}", "int main(){return 1?3:2;}",
		"int main(){int a;a=1;}", "int main(){int a;++a;}", "int main(){int a;a++;}", "int main(){int a;--a;}", "int main(){char a;++a;}", "int main(){unsigned a;return a/2;}", "int main(){int a;return a/2;}", "int main(){return -1;}", "int main(){return ~1;}", "int main(){return !1;}",
	} {
		text := core.Print(read(t, source))
		if other := texts[text]; other != "" {
			t.Errorf("%s and %s have the same text", source, other)
		}
		texts[text] = source
	}
}

// gap is white space, with a comment or without one.
func gap(random *rand.Rand) string {
	l := []string{" ", "\n", "\t\r\n", " /**/", " /* a b */", " // c\n", "  /*\n*/ "}
	return l[random.Intn(len(l))]
}

// TestPrintOfSpaces holds that white space and comments change nothing, but for the positions.
func TestPrintOfSpaces(t *testing.T) {
	random := rand.New(rand.NewSource(6))
	for _, source := range []string{small, broad, "int main(){return 1;}"} {
		tokens, _, _ := lex.Scan(source)
		want := read(t, source)
		for range 5 {
			var other strings.Builder
			for _, token := range tokens {
				other.WriteString(gap(random) + token.Text)
			}
			got := read(t, other.String())
			if core.Print(got) != core.Print(want) {
				t.Fatalf("%q: another text", other.String())
			}
			for n := range got.Nodes {
				got.Nodes[n].At, want.Nodes[n].At = 0, 0
				if got.Nodes[n] != want.Nodes[n] {
					t.Fatalf("%q: another node %d: %v; wanted %v", other.String(), n, got.Nodes[n], want.Nodes[n])
				}
			}
		}
	}
}

// TestPrintOfBrackets holds that brackets around expressions change nothing.
func TestPrintOfBrackets(t *testing.T) {
	for a, b := range map[string]string{
		"int f(){return 1+2*3-4;}":                                                    "int f(){return (((1)+((2)*3))-(4));}",
		"int f(int a){int b[2];b[a]=-a;a+=b[1]++;return a?b[0]:!a;}":                  "int f(int a){int b[2];((b)[(a)])=(-(a));(a)+=((b[(1)])++);return (a)?((b)[0]):(!(a));}",
		"int f(int*p){if(p&&*p)while(*p--);for(p=0;p;++p);return f(&*p);}":            "int f(int*p){if((p)&&(*(p)))while((*((p)--)));for((p=(0));(p);(++(p)));return (f((&(*(p)))));}",
		"struct s{int x;};int f(struct s*p){return p->x+(*p).x+(char)p->x;}":          "struct s{int x;};int f(struct s*p){return ((p)->x)+((*(p)).x)+((char)((p)->x));}",
		"int f(int a){&a;switch(a){case 1:return a;}}":                                "int f(int a){(&((a)));switch((a)){case 1:return (a);}}",
		"int*f(char c){int a=c;int*p=0;return p==0?0:(p=0);}int g(){return putc(1);}": "int*f(char c){int a=(c);int*p=(0);return ((p)==(0))?(0):((p)=((0)));}int g(){return (putc((1)));}",
	} {
		if core.Print(read(t, a+"int main(){}")) != core.Print(read(t, b+"int main(){}")) {
			t.Errorf("%s and %s have other texts", a, b)
		}
	}
	of, _, _ := tree.Read(broad)
	if core.Print(read(t, tree.Print(of))) != core.Print(read(t, broad)) {
		t.Error("the broad source has another text without its brackets")
	}
}

// TestPrintOfNames holds that other names of locals change nothing.
func TestPrintOfNames(t *testing.T) {
	const source = `int g;int f(int L1,char L2,int*L3){int L4=L1;{int L1=L2;char L4[3];&L2;L4[1]=L1+*L3;for(;L1;L1--){int L5;unsigned L1=g;L5+=L1;}}
	return L4?L4:g;}int main(){int L1;int L2=1;L2=f(L1,L1,&L2);int L3[2];again:L3[0]++;if(L2)goto again;return L3[1];}`
	want := core.Print(read(t, source))
	for _, names := range [][]string{{"a", "b", "c", "d", "e"}, {"L2", "L3", "L4", "L5", "L1"}, {"again", "x", "f", "main", "y"}, {"_", "__", "_1", "Z9", "z9"}} {
		var l []string
		for i, name := range names {
			l = append(l, "L"+strconv.Itoa(i+1), name)
		}
		other := strings.NewReplacer(l...).Replace(source)
		if got := core.Print(read(t, other)); got != want {
			t.Errorf("with the names %v: another text", names)
		}
	}
	// Names of globals, functions and labels are in the text.
	for _, other := range []string{strings.ReplaceAll(source, "again", "once"), strings.NewReplacer("int f(", "int h(", "=f(", "=h(").Replace(source), strings.NewReplacer("int g;", "int k;", "=g;", "=k;", ":g;", ":k;").Replace(source)} {
		if core.Print(read(t, other)) == want {
			t.Errorf("%s: the same text", other)
		}
	}
}
