package tree_test

import (
	"math/rand"
	"reflect"
	"strconv"
	"strings"
	"testing"

	"doppel/api"
	"doppel/tree"
)

// maker writes a source and tells what its tree is: a tree by the one random numbers; and its spaces, comments and brackets that change nothing by the other ones.
type maker struct {
	tree, space *rand.Rand
	out         strings.Builder
	last        string
}

// put writes a token, and tells where it stands.
func (m *maker) put(text string) int {
	gaps := []string{" ", "\n", "\t \r", " /**/", " /* ; */", " // }\n", "  "}
	// Beside these no token goes on.
	if m.last == "" || strings.Contains("()[]{};,", m.last) || strings.Contains("()[]{};,", text) {
		gaps = append(gaps, "", "", "", "", "", "")
	}
	m.out.WriteString(gaps[m.space.Intn(len(gaps))])
	at := m.out.Len()
	m.out.WriteString(text)
	m.last = text
	return at
}

func (m *maker) name() string {
	return [...]string{"a", "b", "_", "If", "int9", "x_1", "returned"}[m.tree.Intn(7)]
}

// number writes one, and tells what it is.
func (m *maker) number() (int, string) {
	n := m.tree.Intn(8)
	at := m.put([...]string{"0", "7", "0x1F", "'a'", "'\\n'", "4294967295u", "007", "2147483648"}[n])
	return at, [...]string{"0", "7", "31", "97", "10", "4294967295", "7", "2147483648"}[n]
}

func (m *maker) signed() string {
	minus := m.tree.Intn(2) == 0
	if minus {
		m.put("-")
	}
	_, n := m.number()
	if minus && n != "0" {
		return "-" + n
	}
	return n
}

// typed writes a type, and tells where it stands and its text.
func (m *maker) typed() (int, string) {
	text := [...]string{"int", "unsigned", "char", "void", "struct"}[m.tree.Intn(5)]
	at := m.put(text)
	if text == "struct" {
		name := m.name()
		m.put(name)
		text += " " + name
	}
	for m.tree.Intn(3) == 0 {
		m.put("*")
		text += "*"
	}
	return at, text
}

func (m *maker) counted() string {
	if m.tree.Intn(4) > 0 {
		return ""
	}
	m.put("[")
	_, n := m.number()
	m.put("]")
	return "[" + n + "]"
}

// at is the beginning of a node's text.
func at(kind string, place int) string { return "(" + kind + "@" + strconv.Itoa(place) }

// expression writes one that binds so strongly at least, and tells its text.
func (m *maker) expression(least, room int) string {
	own := m.tree.Intn(tightest + 1)
	if room == 0 {
		own = tightest
	}
	brackets := 0
	if own < least {
		brackets = 1
	}
	for m.space.Intn(6) == 0 {
		brackets++
	}
	for range brackets {
		m.put("(")
	}
	text := m.bound(own, room-1)
	for range brackets {
		m.put(")")
	}
	return text
}

// bound writes an expression that binds so strongly.
func (m *maker) bound(own, room int) string {
	switch own {
	case anything:
		return m.operation("Assign", levels[0], own+1, own, room)
	case chosen:
		a := m.expression(own+1, room)
		place := m.put("?")
		b := m.expression(anything, room)
		m.put(":")
		return at("Cond", place) + " " + a + " " + b + " " + m.expression(own, room) + ")"
	case prefixed:
		return m.prefix(room)
	case tightest:
		if room < 0 {
			return m.primary(0)
		}
		return m.postfix(room)
	}
	return m.operation("Binary", levels[own-1], own, own+1, room)
}

func (m *maker) operation(kind, signs string, left, right, room int) string {
	a := m.expression(left, room)
	l := strings.Fields(signs)
	sign := l[m.tree.Intn(len(l))]
	place := m.put(sign)
	return at(kind, place) + " " + sign + " " + a + " " + m.expression(right, room) + ")"
}

func (m *maker) prefix(room int) string {
	signs := strings.Fields("- ! ~ * & ++ -- cast sizeof")
	switch sign := signs[m.tree.Intn(len(signs))]; sign {
	case "cast":
		place := m.put("(")
		_, text := m.typed()
		m.put(")")
		return at("Cast", place) + " <" + text + "> " + m.expression(prefixed, room) + ")"
	case "sizeof":
		place := m.put("sizeof")
		m.put("(")
		_, text := m.typed()
		text += m.counted()
		m.put(")")
		return at("Sizeof", place) + " <" + text + ">)"
	case "++", "--":
		return at("Before", m.put(sign)) + " " + sign + " " + m.expression(prefixed, room) + ")"
	default:
		return at("Unary", m.put(sign)) + " " + sign + " " + m.expression(prefixed, room) + ")"
	}
}

func (m *maker) postfix(room int) string {
	which := m.tree.Intn(9)
	if which > 3 {
		return m.primary(room)
	}
	a := m.expression(tightest, room)
	switch which {
	case 0:
		place := m.put("[")
		b := m.expression(anything, room)
		m.put("]")
		return at("Index", place) + " " + a + " " + b + ")"
	case 1:
		sign := [...]string{"++", "--"}[m.tree.Intn(2)]
		return at("After", m.put(sign)) + " " + sign + " " + a + ")"
	}
	place := m.put([...]string{".", "->"}[which-2])
	name := m.name()
	m.put(name)
	return at("Member", place) + " " + name + " " + strconv.Itoa(which-2) + " " + a + ")"
}

func (m *maker) primary(room int) string {
	switch m.tree.Intn(8) {
	case 0:
		place := m.put("getc")
		m.put("(")
		m.put(")")
		return at("In", place) + ")"
	case 1:
		place := m.put("putc")
		m.put("(")
		a := m.expression(anything, max(room, 0))
		m.put(")")
		return at("Out", place) + " " + a + ")"
	case 2:
		name := m.name()
		place := m.put(name)
		m.put("(")
		args := m.list(",", max(room, 0), func() string { return m.expression(anything, max(room, 0)) })
		m.put(")")
		return at("Calls", place) + " " + name + " [" + args + "])"
	case 3, 4:
		place, n := m.number()
		return at("Num", place) + " " + n + ")"
	}
	name := m.name()
	return at("Var", m.put(name)) + " " + name + ")"
}

// list writes up to so many of what each writes.
func (m *maker) list(between string, most int, each func() string) string {
	var l []string
	for i := range m.tree.Intn(most + 1) {
		if i > 0 && between != "" {
			m.put(between)
		}
		l = append(l, each())
	}
	return strings.Join(l, " ")
}

// bracketed writes an expression that stands in the brackets of a statement.
func (m *maker) bracketed(room int) string {
	m.put("(")
	text := m.expression(anything, room)
	m.put(")")
	return text
}

// statement writes one; one that an else follows must not end with an if without its own.
func (m *maker) statement(beforeElse bool, room int) string {
	if room == 0 {
		return at("Empty", m.put(";")) + ")"
	}
	room--
	switch m.tree.Intn(14) {
	case 0:
		return m.block(room)
	case 1:
		return m.choice(beforeElse, room)
	case 2:
		place := m.put("while")
		a := m.bracketed(room)
		return at("While", place) + " " + a + " " + m.statement(beforeElse, room) + ")"
	case 3:
		place := m.put("do")
		b := m.statement(false, room)
		m.put("while")
		a := m.bracketed(room)
		m.put(";")
		return at("DoWhile", place) + " " + a + " " + b + ")"
	case 4:
		place := m.put("for")
		m.put("(")
		text := m.perhaps(";", room) + " " + m.perhaps(";", room) + " " + m.perhaps(")", room)
		return at("For", place) + " " + text + " " + m.statement(beforeElse, room) + ")"
	case 5:
		place := m.put("switch")
		a := m.bracketed(room)
		return at("Switch", place) + " " + a + " " + m.block(room) + ")"
	case 6:
		place := m.put("case")
		n := m.signed()
		m.put(":")
		return at("Case", place) + " " + n + " " + m.statement(beforeElse, room) + ")"
	case 7:
		place := m.put("default")
		m.put(":")
		return at("Default", place) + " " + m.statement(beforeElse, room) + ")"
	case 8:
		name := m.name()
		place := m.put(name)
		m.put(":")
		return at("Label", place) + " " + name + " " + m.statement(beforeElse, room) + ")"
	}
	return m.simple(room)
}

func (m *maker) choice(beforeElse bool, room int) string {
	place := m.put("if")
	a := m.bracketed(room)
	if !beforeElse && m.tree.Intn(2) == 0 {
		return at("If", place) + " " + a + " " + m.statement(false, room) + " -)"
	}
	b := m.statement(true, room)
	m.put("else")
	return at("If", place) + " " + a + " " + b + " " + m.statement(beforeElse, room) + ")"
}

// perhaps writes an expression, or none, and a sign.
func (m *maker) perhaps(sign string, room int) string {
	text := "-"
	if m.tree.Intn(2) == 0 {
		text = m.expression(anything, room)
	}
	m.put(sign)
	return text
}

func (m *maker) simple(room int) string {
	switch m.tree.Intn(6) {
	case 0:
		place := m.put("break")
		m.put(";")
		return at("Break", place) + ")"
	case 1:
		place := m.put("continue")
		m.put(";")
		return at("Continue", place) + ")"
	case 2:
		place := m.put("return")
		return at("Give", place) + " " + m.perhaps(";", room) + ")"
	case 3:
		place, name := m.put("goto"), m.name()
		m.put(name)
		m.put(";")
		return at("Goto", place) + " " + name + ")"
	case 4:
		place, text := m.typed()
		name := m.name()
		m.put(name)
		text += m.counted()
		a := "-"
		if m.tree.Intn(2) == 0 {
			m.put("=")
			a = m.expression(anything, room)
		}
		m.put(";")
		return at("Local", place) + " " + name + " <" + text + "> " + a + ")"
	}
	before := m.out.Len()
	text := m.expression(anything, room)
	m.put(";")
	// The statement begins with the first token, a bracket perhaps: behind the gap that was written ahead of it.
	return at("Do", before+gapOf(m.out.String()[before:])) + " " + text + ")"
}

// gapOf is how much white space, and how many of the maker's comments, a text begins with.
func gapOf(s string) int {
	rest := s
	for {
		short := strings.TrimLeft(rest, " \n\t\r")
		for _, comment := range []string{"/**/", "/* ; */", "// }"} {
			short = strings.TrimPrefix(short, comment)
		}
		if short == rest {
			return len(s) - len(rest)
		}
		rest = short
	}
}

func (m *maker) block(room int) string {
	place := m.put("{")
	text := m.list("", 3, func() string { return m.statement(false, room) })
	m.put("}")
	return at("Block", place) + " [" + text + "])"
}

func (m *maker) param(counted bool) string {
	place, text := m.typed()
	name := m.name()
	m.put(name)
	if counted {
		text += m.counted()
	}
	return at("Param", place) + " " + name + " <" + text + ">)"
}

func (m *maker) whole() string {
	switch m.tree.Intn(4) {
	case 0:
		place, name := m.put("struct"), m.name()
		m.put(name)
		m.put("{")
		field := func() string {
			text := m.param(true)
			m.put(";")
			return text
		}
		first := field()
		rest := m.list("", 2, field)
		m.put("}")
		m.put(";")
		return at("Structure", place) + " " + name + " [" + strings.TrimSuffix(first+" "+rest, " ") + "])"
	case 1:
		place, text := m.typed()
		name := m.name()
		m.put(name)
		text += m.counted()
		n := "0"
		if m.tree.Intn(2) == 0 {
			m.put("=")
			n = m.signed()
		}
		m.put(";")
		return at("Whole", place) + " " + name + " " + n + " <" + text + ">)"
	}
	place, text := m.typed()
	name := m.name()
	m.put(name)
	m.put("(")
	params := m.list(",", 3, func() string { return m.param(false) })
	m.put(")")
	return at("Function", place) + " " + name + " <" + text + "> [" + params + "] " + m.block(4) + ")"
}

// made is a source, and the text of its tree.
func made(seed, spaces int64) (string, string) {
	m := &maker{tree: rand.New(rand.NewSource(seed)), space: rand.New(rand.NewSource(spaces))}
	text := m.list("", 4, m.whole)
	return m.out.String(), "[" + text + "]"
}

// without is a tree with all places 0.
func without(of tree.Tree) tree.Tree {
	of.Nodes = append([]api.Node{}, of.Nodes...)
	for i := range of.Nodes {
		of.Nodes[i].At = 0
	}
	return of
}

// printed holds that a tree is printed as a source of it, which is printed in the same way.
func printed(t *testing.T, of tree.Tree) {
	t.Helper()
	source := tree.Print(of)
	again := read(t, source)
	if got, want := shown(t, again, false), shown(t, of, false); got != want {
		t.Fatalf("Print: %s\nis read as %s\nwanted     %s", source, got, want)
	}
	if second := tree.Print(again); second != source {
		t.Fatalf("Print: %s\nand printed again: %s", source, second)
	}
}

// TestMade holds fixed pseudo-random sources: their trees, that other spaces, comments and brackets change nothing but places, and that they can be printed.
func TestMade(t *testing.T) {
	kinds := map[int]bool{}
	for seed := range int64(1500) {
		source, want := made(seed, seed)
		if len(source) > api.MaxText {
			continue
		}
		of := read(t, source)
		if got := shown(t, of, true); got != want {
			t.Fatalf("%s\nread as %s\nwanted  %s", source, got, want)
		}
		other, _ := made(seed, seed+1)
		if len(other) <= api.MaxText {
			if again := read(t, other); !reflect.DeepEqual(without(again), without(of)) {
				t.Fatalf("%s\nand %s\nhave other trees", source, other)
			}
		}
		printed(t, of)
		for _, n := range of.Nodes {
			kinds[n.Kind] = true
		}
	}
	for kind := tree.Num; kind <= tree.Structure; kind++ {
		if _, is := formOf(kind); is && !kinds[kind] {
			t.Errorf("no source has a node of the kind %d", kind)
		}
	}
}

func TestPrint(t *testing.T) {
	for _, source := range []string{
		"", "int a;", "int a=1;", "int a=2;", "int a=-1;", "int a=-5;", "int a[3]=7;", "struct s{int a;};", broad, "int f(){a- -b;a-(-b);a- --b;a-- -b;a--- -b;- -a;-(-a);- --a;-(--a);- - --a;}", "int f(){a+ ++b;a+++b;a++ + ++b;}", "int f(){a/ *b;a&&b;a& &b;a&(&b);& &a;a&& &b;}",
		"int f(){a- -1;a-(-(-1));-1[a];(-1)[a];-(1);- -1;}", "int f(){!(a=b);-(a+b);(a+b)*c;a+b*c;(a=b)=c;a=b=c;(a?b:c)?d:e;a?b:c?d:e;a?(b=c):(d=e);(a?b:c)=d;a?b:c=d;}",
		"int f(){a-(b-c);(a-b)-c;a-b-c;a<<(b<<c);(a<<b)<<c;(a<b)<c;a<(b<c);a||(b&&c);(a||b)&&c;a|b^c&d;((a|b)^c)&d;(a==b)&c;a==(b&c);}", "int f(){(*a).b;*a.b;(&a)->b;(int)a.b;((int)a).b;(a++)++;(++a)++;++a++;(-a)++;(sizeof(int))[a];sizeof(int[3])*-sizeof(char*);}",
		"int f(){if(a)if(b)c;else d;if(a){if(b)c;}else d;if(a)if(b)c;else d;else e;if(a)while(b)if(c)d;else e;}", "int f(){do if(a)b;while(c);do a;while(b);while(c);return;return a;return(a);return-a;return!a;return*a;}", "int f(){case 1:case -1:default:a:b:;goto a;for(;;);for(a;;)b;for(;a;);for(;;a);}",
		"int f(){int a=(b=c);int*a[2]=b?c:d;f(a,b=c,(d?e:f));putc((a));putc(a=b);getc();}", "unsigned f(void*a,struct s**b){}", "int f(){1;0x10;'a';4294967295;007;1u;}", "int a=4294967295;unsigned b=-4294967295;",
		"int f(){a" + strings.Repeat("+a", 80) + ";a" + strings.Repeat("*a-a", 40) + ";a" + strings.Repeat("[a]", 80) + ";a" + strings.Repeat("=a", 80) + ";}", "int f(){" + strings.Repeat("(", 90) + "a" + strings.Repeat(")", 90) + ";" + strings.Repeat("-", 1) + strings.Repeat(" -", 80) + "a;}",
		"int f(){" + strings.Repeat("{", 90) + strings.Repeat("}", 90) + strings.Repeat("if(a);else ", 90) + ";}", "int f(){a?b:" + strings.Repeat("c?d:", 80) + "e;" + strings.Repeat("a?", 80) + "b" + strings.Repeat(":c", 80) + ";}",
	} {
		printed(t, read(t, source))
	}
	if got := tree.Print(tree.Tree{Top: -1}); strings.TrimSpace(got) != "" {
		t.Errorf("Print of nothing: %q", got)
	}
}

// TestBrackets lays brackets round each expression of a source, and spaces and comments between all tokens: nothing changes but places.
func TestBrackets(t *testing.T) {
	plain := "int f(){int a=b;a=b+c*d;return a;if(a)b;while(a)b;do a;while(b);for(a;b;c)d;switch(a){}a?b:c;f(a,b);putc(a);-a;a[b].c->d++;(int)a;++a;}"
	full := "int f(){int a=(b);((a)=((b)+((c)*(d))));return(a);if((a))(b);while((a))((b));do(a);while(((b)));for((a);(b);(c))(d);switch((a)){}((a)?(b):(c));(f((a),(b)));(putc((a)));(-(a));(((((a)[(b)]).c)->d)++);((int)(a));(++(a));}"
	want := without(read(t, plain))
	if got := read(t, full); !reflect.DeepEqual(without(got), want) {
		t.Errorf("brackets change %s\ninto %s", shown(t, read(t, plain), false), shown(t, got, false))
	}
	for _, gap := range []string{" ", "\n", "\t", "\r\n", "/**/", "/* } */", "// ;\n", "  // \n /* */ "} {
		var l []string
		for _, token := range scan(t, plain) {
			l = append(l, token.Text)
		}
		if got := read(t, gap+strings.Join(l, gap)); !reflect.DeepEqual(without(got), want) {
			t.Errorf("the gap %q changes the tree", gap)
		}
	}
	if reflect.DeepEqual(without(read(t, strings.Replace(full, "((b)+((c)*(d)))", "(((b)+(c))*(d))", 1))), want) {
		t.Error("brackets that change what belongs together change nothing")
	}
}
