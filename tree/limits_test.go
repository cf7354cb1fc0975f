package tree_test

import (
	"math/rand"
	"strconv"
	"strings"
	"testing"

	"doppel/api"
	"doppel/lex"
	"doppel/tree"
)

const (
	deepest   = 100
	mostNodes = 8192
	mostTypes = 256
)

// way is a way to nest: what stands before and behind, where the first thing stands that is inside, how strongly the whole binds, how strongly what is inside must bind, and whether that is one level deeper.
type way struct {
	before, behind string
	first          int
	own, inner     int
	levels         int
}

// wayOf is a way of a pattern: a bar stands for what is nested, and a caret ahead of what else is first inside.
func wayOf(pattern string, own, inner, levels int) way {
	before, behind, _ := strings.Cut(pattern, "|")
	head, tail, marked := strings.Cut(before, "^")
	if !marked {
		head = before
	}
	return way{head + tail, behind, len(head), own, inner, levels}
}

const (
	anything = 0 // an expression in brackets
	chosen   = 1 // one that is no assignment
	prefixed = 12
	tightest = 13
)

// statementWays nest a statement in a statement.
func statementWays() []way {
	l := []way{}
	for _, x := range []string{"{|}", "{^;|;}", "if(^1)|", "if(^1);else |", "while(^1)|", "do |while(1);", "for(;;)|", "for(^1;1;1)|", "a:|", "case 1:|", "case -1:|", "default:|", "switch(^1){|}", "switch(^1){;|;}"} {
		l = append(l, wayOf(x, anything, anything, 1))
	}
	return l
}

// bridges nest an expression in a statement.
func bridges() []way {
	l := []way{}
	for _, x := range []string{"|;", "return |;", "if(|);", "if(|);else;", "while(|);", "do ^;while(|);", "for(|;;);", "for(;|;);", "for(;;|);", "for(^1;1;|);", "switch(|){}", "int a=|;", "struct s*a[2]=|;"} {
		l = append(l, wayOf(x, anything, anything, 1))
	}
	return l
}

// expressionWays nest an expression in an expression.
func expressionWays() []way {
	l := []way{wayOf("a?|:1", chosen, anything, 1), wayOf("a?^1:|", chosen, chosen, 1)}
	for _, x := range []string{"(|)", "a[|]", "a(|)", "a(^1,|,2)", "putc(|)"} {
		l = append(l, wayOf(x, tightest, anything, 1))
	}
	for _, sign := range strings.Fields(levels[0]) {
		l = append(l, way{"a" + sign, "", len("a" + sign), anything, anything, 1})
	}
	for _, x := range []string{"- |", "!|", "~|", "*|", "& |", "++ |", "-- |", "(int)|", "(struct s**)|"} {
		l = append(l, wayOf(x, prefixed, prefixed, 1))
	}
	return l
}

// levelWays lay an expression beside another one: it is not deeper.
func levelWays() []way {
	l := []way{wayOf("|?1:1", chosen, chosen+1, 0), wayOf("|=1", anything, chosen, 0)}
	for _, x := range []string{"|[1]", "|.a", "|->a", "|++", "| --"} {
		l = append(l, wayOf(x, tightest, tightest, 0))
	}
	for i, level := range levels[1:] {
		for _, sign := range strings.Fields(level) {
			own := chosen + 1 + i
			// ^ marks nothing here, and is a sign.
			l = append(l, way{"1" + sign + " ", "", 0, own, own + 1, 0}, way{"", " " + sign + "1", 0, own, own, 0})
		}
	}
	return l
}

// nest is a source in which each way stands within the one before; too is where the first one stands that is within 100 others, or -1.
type nest struct {
	before, behind string
	depth, too     int
}

// newNest is a function with a statement.
func newNest() *nest {
	return &nest{before: opening, behind: "}", depth: 1, too: -1}
}

func (n *nest) wrap(w way) {
	n.depth += w.levels
	if n.depth > deepest && n.too < 0 {
		n.too = len(n.before) + w.first
	}
	n.before += w.before
	n.behind = w.behind + n.behind
}

func (n *nest) held(t *testing.T, last string) {
	t.Helper()
	source := n.before + last + n.behind
	if n.too < 0 {
		shown(t, read(t, source), true)
		return
	}
	refused(t, source, n.too, api.ErrDeep)
}

// TestDeep nests by each way, once as deep as may be and once deeper.
func TestDeep(t *testing.T) {
	for times := deepest - 3; times <= deepest+1; times++ {
		for _, w := range statementWays() {
			n := newNest()
			for range times {
				n.wrap(w)
			}
			n.held(t, ";")
			for _, b := range bridges() {
				with := *n
				with.wrap(b)
				with.held(t, "1")
			}
		}
		for _, b := range bridges() {
			for _, w := range expressionWays() {
				n := newNest()
				n.wrap(b)
				for range times {
					n.wrap(w)
				}
				n.held(t, "1")
			}
		}
	}
	if n := tooDeep(t); n == 0 {
		t.Error("nothing was too deep")
	}
}

// tooDeep tells how many levels more than may be are refused, whatever they are, in brackets alone.
func tooDeep(t *testing.T) int {
	refusals := 0
	for times := range 3 * deepest {
		source := opening + strings.Repeat("(", times) + "1" + strings.Repeat(")", times) + ";}"
		if times > deepest-2 {
			refused(t, source, len(opening)+deepest-1, api.ErrDeep)
			refusals++
		} else {
			read(t, source)
		}
	}
	return refusals
}

// TestNotDeep nests by each way that does not count, far more often than by those that do.
func TestNotDeep(t *testing.T) {
	for _, w := range levelWays() {
		for _, times := range []int{1, deepest, 3 * deepest} {
			if w.own < w.inner && times > 1 {
				continue // it cannot stand within itself
			}
			n := newNest()
			n.wrap(wayOf("|;", anything, anything, 1))
			for range times {
				n.wrap(w)
			}
			n.held(t, "a")
			for range deepest - 2 {
				n.wrap(wayOf("(|)", tightest, anything, 1))
			}
			n.held(t, "a")
			n.wrap(wayOf("(|)", tightest, anything, 1))
			n.held(t, "a")
		}
	}
	for _, source := range []string{
		strings.Repeat(";", 3000),
		strings.Repeat("{;}", 500),
		strings.Repeat("if(1);else;", 300),
		"1" + strings.Repeat("+1", 2000) + ";",
		"1" + strings.Repeat("||1&&1|1^1&1==1<1<<1+1*1", 100) + ";",
		"a" + strings.Repeat("[1]", 1000) + ";",
		"a" + strings.Repeat(".b->c++--", 300) + ";",
		"a(1" + strings.Repeat(",1", 1500) + ");",
		strings.Repeat("sizeof(int)+", 500) + "1;",
		"a" + strings.Repeat("=a", 98) + ";",
	} {
		shown(t, read(t, opening+source+"}"), true)
	}
	read(t, "int f(int a"+strings.Repeat(",int a", 500)+"){}")
	read(t, "struct s{"+strings.Repeat("int a;", 500)+"};")
	read(t, strings.Repeat("int f(){{}}", 500))
	// The block of a function does not count, nor that of a switch; a block in it does.
	blocks := func(n int) string { return strings.Repeat("{", n) + strings.Repeat("}", n) }
	read(t, "int f()"+blocks(deepest+1))
	refused(t, "int f()"+blocks(deepest+2), 7+deepest+1, api.ErrDeep)
	switches := func(n int) string { return strings.Repeat("switch(1){", n) + strings.Repeat("}", n) }
	read(t, opening+switches(deepest-1)+"}")
	refused(t, opening+switches(deepest)+"}", len(opening)+10*(deepest-1)+7, api.ErrDeep)
}

// TestDeepMixed holds long fixed pseudo-random nests of all ways.
func TestDeepMixed(t *testing.T) {
	random := rand.New(rand.NewSource(44))
	statements, expressions := statementWays(), append(expressionWays(), levelWays()...)
	over := 0
	for range 1000 {
		n := newNest()
		for range random.Intn(100) {
			n.wrap(statements[random.Intn(len(statements))])
		}
		if random.Intn(8) == 0 {
			n.held(t, ";")
			continue
		}
		crossing := bridges()
		n.wrap(crossing[random.Intn(len(crossing))])
		least := anything
		for n.depth < deepest+2 && random.Intn(150) > 0 {
			w := expressions[random.Intn(len(expressions))]
			// What some ways have behind what is nested is deeper than they are themselves.
			if w.own < least || w.levels == 0 && n.depth >= deepest {
				continue
			}
			n.wrap(w)
			least = w.inner
		}
		n.held(t, "a")
		if n.too >= 0 {
			over++
		}
	}
	if over < 200 || over > 800 {
		t.Errorf("%d of 1000 nests were too deep: the test does not hold both sides", over)
	}
}

// nodesOf is a function with so many nodes, and Top's one.
func nodesOf(n int) string {
	odd := ""
	if n%2 == 0 {
		odd, n = "1;", n-3
	}
	return opening + odd + strings.Repeat(";", (n-3)/2) + "}"
}

func TestNodes(t *testing.T) {
	for _, n := range []int{3, 6, 7, 100, mostNodes - 2, mostNodes - 1, mostNodes} {
		of := read(t, nodesOf(n))
		shown(t, of, true)
		if len(of.Nodes) != n {
			t.Errorf("%d nodes; wanted %d", len(of.Nodes), n)
		}
	}
	for _, n := range []int{mostNodes + 1, mostNodes + 2} {
		source := nodesOf(n)
		of, at, errno := tree.Read(source)
		if errno != api.ErrLong || at < len(source)-1 || at > len(source) || len(of.Nodes)+len(of.Types)+of.Top != 0 {
			t.Errorf("%d nodes: error %d at %d; wanted error %d", n, errno, at, api.ErrLong)
		}
	}
	// The one node more than may be is Top's item: the End is next then.
	source := nodesOf(mostNodes + 1)
	refused(t, source, len(source), api.ErrLong)
	tokens := repeated(t, "int a;", mostNodes/2)
	of, at, errno := tree.Parse(tokens)
	if at != 0 || errno != api.OK || len(of.Nodes) != mostNodes {
		t.Fatalf("%d nodes of globals: error %d at %d", mostNodes, errno, at)
	}
	shown(t, of, true)
	of, at, errno = tree.Parse(repeated(t, "int a;", mostNodes/2+1))
	if at != 6*(mostNodes/2+1) || errno != api.ErrLong || len(of.Nodes)+len(of.Types)+of.Top != 0 {
		t.Errorf("more than %d nodes of globals: error %d at %d; wanted error %d", mostNodes, errno, at, api.ErrLong)
	}
}

// repeated is the tokens of a text, so often, as they would stand in one source, and an End.
func repeated(t *testing.T, text string, times int) []api.Token {
	t.Helper()
	piece := scan(t, text)
	var l []api.Token
	for i := range times {
		for _, token := range piece[:len(piece)-1] {
			token.At += i * len(text)
			l = append(l, token)
		}
	}
	return append(l, api.Token{At: times * len(text)})
}

// TestManyTokens holds that Parse takes more tokens than Scan gives, as long as there are not too many nodes.
func TestManyTokens(t *testing.T) {
	l := repeated(t, "struct s f(struct s*a,struct s*b){}", 1000)
	of, at, errno := tree.Parse(l)
	if len(l) <= api.MaxTokens || at != 0 || errno != api.OK || len(of.Nodes) != 1000*7 {
		t.Fatalf("%d tokens: error %d at %d, %d nodes", len(l), errno, at, len(of.Nodes))
	}
	shown(t, of, true)
	l = append(scan(t, opening)[:5], repeated(t, ";", 20000)...)
	l = append(l[:len(l)-1], scan(t, "}")...)
	if of, _, errno := tree.Parse(l); errno != api.ErrLong || len(of.Nodes)+len(of.Types)+of.Top != 0 {
		t.Errorf("20000 statements: error %d; wanted error %d", errno, api.ErrLong)
	}
	// What is not possible comes first here.
	l[1200].Text = "?"
	if _, at, errno := tree.Parse(l); errno != api.ErrSyntax || at != l[1200].At {
		t.Errorf("20000 statements, one of which is none: error %d at %d; wanted error %d at %d", errno, at, api.ErrSyntax, l[1200].At)
	}
}

func TestManyTypes(t *testing.T) {
	room := mostTypes - 4
	structs, arrays, each := "", "", ""
	for i := range room {
		structs += "struct s" + strconv.Itoa(i) + " a;"
		arrays += "int a[" + strconv.Itoa(i) + "];"
		each += [...]string{"struct s" + strconv.Itoa(i) + " a;", "char a[" + strconv.Itoa(i) + "];", "sizeof(int[" + strconv.Itoa(i) + "]);"}[i%3]
	}
	stars := "int" + strings.Repeat("*", room)
	for source, more := range map[string]string{
		structs:                 "struct more a;",
		arrays:                  "int a[1000];",
		stars + " a;":           "int" + strings.Repeat("*", room) + "*a;",
		opening + each:          "(char*)1;",
		opening + stars + " a;": "sizeof(void*);",
	} {
		behind := ""
		if strings.HasPrefix(source, opening) {
			behind = "}"
		}
		of := read(t, source+behind)
		shown(t, of, true)
		if len(of.Types) != mostTypes {
			t.Errorf("%.50q: %d types; wanted %d", source, len(of.Types), mostTypes)
		}
		// All of them may occur again.
		again := read(t, source+strings.TrimPrefix(source, opening)+behind)
		shown(t, again, true)
		of, at, errno := tree.Read(source + more + behind)
		if errno != api.ErrLong || at <= len(source) || at > len(source)+len(more) || len(of.Nodes)+len(of.Types)+of.Top != 0 {
			t.Errorf("%.50q and a type more: error %d at %d; wanted error %d", source, errno, at, api.ErrLong)
		}
	}
	// The type is there when its last token is: what is not possible ahead of that is told of, and what comes behind is not.
	refused(t, structs+"struct 1", len(structs)+7, api.ErrSyntax)
	refused(t, arrays+"int a[1000", len(arrays)+10, api.ErrSyntax)
	for _, source := range []string{structs + "struct more a b", arrays + "int a[1000];;"} {
		if _, at, errno := tree.Read(source); errno != api.ErrLong || at > len(source)-2 {
			t.Errorf("%.50q, a type more and what is not possible: error %d at %d; wanted error %d", source, errno, at, api.ErrLong)
		}
	}
}

// TestFirst holds which error is told of where there are several.
func TestFirst(t *testing.T) {
	deep := strings.Repeat("(", deepest-1) + "1" + strings.Repeat(")", deepest-1)
	refused(t, opening+deep+";}}", len(opening)+deepest-1, api.ErrDeep)
	refused(t, opening+"a b;"+deep+";}", len(opening)+2, api.ErrSyntax)
	refused(t, opening+deep+"1;}@", len(opening)+len(deep)+3, api.ErrChar)
	refused(t, opening+deep[:deepest-1]+"1 1", len(opening)+deepest-1, api.ErrDeep)
	refused(t, opening+deep[:deepest-2]+"1 1", len(opening)+deepest, api.ErrSyntax)
	refused(t, opening+deep[:deepest-2]+")", len(opening)+deepest-2, api.ErrSyntax)
	refused(t, opening+strings.Repeat("(", 3*deepest), len(opening)+deepest-1, api.ErrDeep)
	stars := "int" + strings.Repeat("*", mostTypes)
	refused(t, "}"+stars+" a;", 0, api.ErrSyntax)
	refused(t, opening+deep+";"+stars+"a;}", len(opening)+deepest-1, api.ErrDeep)
	source := opening + strings.Repeat("int*a;", 10) + stars + "a;" + deep + ";}"
	if _, at, errno := tree.Read(source); errno != api.ErrLong || at < strings.Index(source, stars)+mostTypes-5 || at > strings.Index(source, deep)-2 {
		t.Errorf("too many types ahead of what is too deep: error %d at %d", errno, at)
	}
	if _, _, errno := lex.Scan(source); errno != api.OK {
		t.Fatal("the test's source has other errors:", errno)
	}
}
