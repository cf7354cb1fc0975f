package tree_test

import (
	"strconv"
	"strings"
	"testing"

	"doppel/api"
	"doppel/lex"
	"doppel/tree"
)

// form is what the chapter's table says of a kind: which fields its nodes use. A part is an expression (e), a statement (s), a block (b), a list of expressions (x), of statements (y) or of Params (p), and may be missing (E, S).
type form struct {
	name           string
	text, n, typed bool
	parts          string
}

func formOf(kind int) (form, bool) {
	forms := map[int]form{
		tree.Num:       {"Num", false, true, false, ""},
		tree.Var:       {"Var", true, false, false, ""},
		tree.Unary:     {"Unary", true, false, false, "e"},
		tree.Binary:    {"Binary", true, false, false, "ee"},
		tree.Assign:    {"Assign", true, false, false, "ee"},
		tree.Cond:      {"Cond", false, false, false, "eee"},
		tree.Index:     {"Index", false, false, false, "ee"},
		tree.Member:    {"Member", true, true, false, "e"},
		tree.Calls:     {"Calls", true, false, false, "x"},
		tree.Cast:      {"Cast", false, false, true, "e"},
		tree.Sizeof:    {"Sizeof", false, false, true, ""},
		tree.Before:    {"Before", true, false, false, "e"},
		tree.After:     {"After", true, false, false, "e"},
		tree.In:        {"In", false, false, false, ""},
		tree.Out:       {"Out", false, false, false, "e"},
		tree.Do:        {"Do", false, false, false, "e"},
		tree.If:        {"If", false, false, false, "esS"},
		tree.While:     {"While", false, false, false, "es"},
		tree.DoWhile:   {"DoWhile", false, false, false, "es"},
		tree.For:       {"For", false, false, false, "EEEs"},
		tree.Break:     {"Break", false, false, false, ""},
		tree.Continue:  {"Continue", false, false, false, ""},
		tree.Give:      {"Give", false, false, false, "E"},
		tree.Goto:      {"Goto", true, false, false, ""},
		tree.Label:     {"Label", true, false, false, "s"},
		tree.Switch:    {"Switch", false, false, false, "eb"},
		tree.Case:      {"Case", false, true, false, "s"},
		tree.Default:   {"Default", false, false, false, "s"},
		tree.Block:     {"Block", false, false, false, "y"},
		tree.Empty:     {"Empty", false, false, false, ""},
		tree.Local:     {"Local", true, false, true, "E"},
		tree.Function:  {"Function", true, false, true, "pb"},
		tree.Param:     {"Param", true, false, true, ""},
		tree.Whole:     {"Whole", true, true, true, ""},
		tree.Structure: {"Structure", true, false, false, "p"},
	}
	f, is := forms[kind]
	return f, is
}

// may tells whether a node of a kind may be a part of that sort.
func may(sort byte, kind int) bool {
	switch sort {
	case 'e', 'E', 'x':
		return tree.Num <= kind && kind <= tree.Out
	case 's', 'S', 'y':
		return tree.Do <= kind && kind <= tree.Local
	case 'b':
		return kind == tree.Block
	case 'p':
		return kind == tree.Param
	}
	return kind == tree.Function || kind == tree.Whole || kind == tree.Structure
}

func partsOf(n api.Node) [4]int { return [4]int{n.A, n.B, n.C, n.D} }

// shower writes a tree as a text, from its fields alone, and finds what the chapter's table rules out.
type shower struct {
	tree   tree.Tree
	places bool // whether At is written
	from   int  // what is taken from it
	seen   map[int]bool
	wrong  []string
}

func (s *shower) note(n int, what string) {
	s.wrong = append(s.wrong, "node "+strconv.Itoa(n)+": "+what)
}

// node writes a node that is a part of the node above, of that sort.
func (s *shower) node(n, above int, sort byte) string {
	if n < 0 || n >= len(s.tree.Nodes) || n >= above {
		s.note(n, "no node, or one that does not come ahead of "+strconv.Itoa(above))
		return "?"
	}
	if s.seen[n] {
		s.note(n, "contained twice")
	}
	s.seen[n] = true
	x := s.tree.Nodes[n]
	f, is := formOf(x.Kind)
	if !is || !may(sort, x.Kind) {
		s.note(n, "a node of the kind "+strconv.Itoa(x.Kind)+" where "+string(sort)+" is wanted")
		return "?"
	}
	s.unused(n, x, f)
	text := "(" + f.name + s.place(x) + attributes(s.tree, x, f)
	for i, part := range partsOf(x) {
		if i >= len(f.parts) {
			continue
		}
		switch sort := f.parts[i]; {
		case sort == 'x' || sort == 'y' || sort == 'p':
			text += " " + s.list(part, n, sort)
		case (sort == 'E' || sort == 'S') && part == -1:
			text += " -"
		default:
			text += " " + s.node(part, n, sort)
		}
	}
	return text + ")"
}

func (s *shower) place(x api.Node) string {
	if !s.places {
		return ""
	}
	return "@" + strconv.Itoa(x.At-s.from)
}

func attributes(t tree.Tree, x api.Node, f form) string {
	text := ""
	if f.text {
		text += " " + x.Text
	}
	if f.n {
		text += " " + strconv.Itoa(x.N)
	}
	if f.typed {
		text += " <" + textOf(t, x.Type) + ">"
	}
	return text
}

// textOf writes a type as the chapter of layer 3 says.
func textOf(t tree.Tree, n int) string {
	if n < 0 || n >= len(t.Types) {
		return "?"
	}
	switch of := t.Types[n]; of.Kind {
	case api.Pointer:
		return textOf(t, of.Elem) + "*"
	case api.Array:
		return textOf(t, of.Elem) + "[" + strconv.Itoa(of.N) + "]"
	case api.Struct:
		return "struct " + of.Name
	}
	return [...]string{"void", "int", "unsigned", "char"}[t.Types[n].Kind]
}

// unused finds fields that a kind does not use, and that are not empty.
func (s *shower) unused(n int, x api.Node, f form) {
	if !f.text && x.Text != "" || !f.n && x.N != 0 || !f.typed && x.Type != 0 {
		s.note(n, "a Text, N or Type that "+f.name+" does not use")
	}
	for i, part := range partsOf(x) {
		if i >= len(f.parts) && part != -1 {
			s.note(n, "a part that "+f.name+" does not use")
		}
	}
}

func (s *shower) list(n, above int, sort byte) string {
	var items []string
	for n != -1 {
		if n < 0 || n >= len(s.tree.Nodes) || n >= above || s.tree.Nodes[n].Kind != tree.Item || s.seen[n] {
			s.note(n, "no list, or one that does not come ahead of "+strconv.Itoa(above))
			break
		}
		s.seen[n] = true
		x := s.tree.Nodes[n]
		items = append(items, s.node(x.A, n, sort))
		if 0 <= x.A && x.A < n && x.At != s.tree.Nodes[x.A].At {
			s.note(n, "an Item that does not stand at its item")
		}
		if x.C != -1 || x.D != -1 || x.Text != "" || x.N != 0 || x.Type != 0 {
			s.note(n, "a field that Item does not use")
		}
		n, above = x.B, n
	}
	return "[" + strings.Join(items, " ") + "]"
}

// types finds what is wrong with a tree's types.
func (s *shower) types() {
	for n, of := range s.tree.Types {
		want := api.Type{Kind: of.Kind}
		switch of.Kind {
		case api.Pointer:
			want.Elem = of.Elem
		case api.Array:
			want.Elem, want.N = of.Elem, of.N
		case api.Struct:
			want.Name = of.Name
		}
		if of != want || (n < 4) != (of.Kind < 4) || n < 4 && of.Kind != n || of.Elem != 0 && of.Elem >= n {
			s.wrong = append(s.wrong, "type "+strconv.Itoa(n)+" may not be")
		}
		for _, other := range s.tree.Types[:n] {
			if other == of {
				s.wrong = append(s.wrong, "type "+strconv.Itoa(n)+" is there twice")
			}
		}
	}
}

// shown is the text of a tree that may be one.
func shown(t *testing.T, of tree.Tree, places bool) string {
	t.Helper()
	s := &shower{tree: of, places: places, seen: map[int]bool{}}
	text := s.list(of.Top, len(of.Nodes), 'w')
	s.types()
	if len(s.seen) != len(of.Nodes) {
		s.wrong = append(s.wrong, "nodes that nothing contains")
	}
	if len(s.wrong) > 0 {
		t.Fatalf("%s: %s", text, strings.Join(s.wrong, "; "))
	}
	return text
}

// read is the tree of a source without an error.
func read(t *testing.T, source string) tree.Tree {
	t.Helper()
	of, at, errno := tree.Read(source)
	if at != 0 || errno != api.OK {
		t.Fatalf("Read(%.200q): error %d at %d", source, errno, at)
	}
	return of
}

// refused holds that a source has that error, there, and no tree.
func refused(t *testing.T, source string, wantAt int, want api.Errno) {
	t.Helper()
	of, at, errno := tree.Read(source)
	if errno != want || at != wantAt {
		t.Fatalf("Read(%.200q): error %d at %d; wanted error %d at %d", source, errno, at, want, wantAt)
	}
	if len(of.Nodes) > 0 || len(of.Types) > 0 || of.Top != 0 {
		t.Fatalf("Read(%.200q): a tree beside an error: %v", source, of)
	}
}

func scan(t *testing.T, source string) []api.Token {
	t.Helper()
	l, _, errno := lex.Scan(source)
	if errno != api.OK {
		t.Fatalf("Scan(%.200q): error %d", source, errno)
	}
	return l
}

// The tests of statements and expressions lay them into a function, behind this.
const opening = "int f(){"

// inside is the text of the statements of a function, with their places in the text that is given.
func inside(t *testing.T, statements string) string {
	t.Helper()
	of := read(t, opening+statements+"}")
	shown(t, of, true)
	s := &shower{tree: of, places: true, from: len(opening), seen: map[int]bool{}}
	top := of.Nodes[of.Nodes[of.Top].A]
	block := of.Nodes[top.B]
	return s.list(block.A, len(of.Nodes), 'y')
}

// alone is the text of an expression, with its places in the text that is given.
func alone(t *testing.T, expression string) string {
	t.Helper()
	text := inside(t, expression+";")
	at := len("[(Do@0 ")
	return text[at : len(text)-len(")]")]
}
