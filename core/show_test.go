package core_test

import (
	"strconv"
	"strings"
	"testing"

	"doppel/api"
	"doppel/core"
	"doppel/tree"
	"doppel/word"
)

// form is what the chapter says of a kind: how it is written here (its parts, its number and its text stand behind), which of N and Text its nodes use, and its parts: an expression (e), a statement (s), a block (b), a list of expressions (x) or of statements (y); a capital may be missing.
type form struct {
	name    string
	n, text bool
	parts   string
}

func formOf(kind int) (form, bool) {
	forms := map[int]form{
		core.Num:      {"", true, false, ""},
		core.Reg:      {"r", true, false, ""},
		core.Frame:    {"f", true, false, ""},
		core.Load:     {"load", false, false, "e"},
		core.Store:    {"store", false, false, "ee"},
		core.Set:      {"set", true, false, "e"},
		core.One:      {"one", true, false, "e"},
		core.Two:      {"two", true, false, "ee"},
		core.Cond:     {"cond", false, false, "eee"},
		core.And:      {"&&", false, false, "ee"},
		core.Or:       {"||", false, false, "ee"},
		core.Call:     {"call", false, true, "x"},
		core.In:       {"getc", false, false, ""},
		core.Out:      {"putc", false, false, "e"},
		core.Then:     {"then", false, false, "ee"},
		tree.Do:       {"do", false, false, "e"},
		tree.If:       {"if", false, false, "esS"},
		tree.While:    {"while", false, false, "es"},
		tree.DoWhile:  {"dowhile", false, false, "es"},
		tree.For:      {"for", false, false, "EEEs"},
		tree.Break:    {"break", false, false, ""},
		tree.Continue: {"continue", false, false, ""},
		tree.Give:     {"give", false, false, "E"},
		tree.Goto:     {"goto", false, true, ""},
		tree.Label:    {"label", false, true, "s"},
		tree.Switch:   {"switch", false, false, "eb"},
		tree.Case:     {"case", true, false, "s"},
		tree.Default:  {"default", false, false, "s"},
		tree.Block:    {"block", false, false, "y"},
		tree.Empty:    {"empty", false, false, ""},
	}
	f, is := forms[kind]
	return f, is
}

// may tells whether a node of a kind may be a part of that sort.
func may(sort byte, kind int) bool {
	switch sort {
	case 'e', 'E', 'x':
		return core.Num <= kind && kind <= core.Then
	case 'b':
		return kind == tree.Block
	}
	return tree.Do <= kind && kind <= tree.Empty
}

func fieldsOf(n api.Node) [4]int { return [4]int{n.A, n.B, n.C, n.D} }

// shower writes a program as a text, from its fields alone, and finds what the chapter rules out.
type shower struct {
	program core.Program
	places  bool // whether At is written
	seen    map[int]bool
	wrong   []string
}

func (s *shower) note(n int, what string) {
	s.wrong = append(s.wrong, "node "+strconv.Itoa(n)+": "+what)
}

// node writes a node that is a part of the node above, of that sort.
func (s *shower) node(n, above int, sort byte) string {
	if n < 0 || n >= len(s.program.Nodes) || n >= above {
		s.note(n, "no node, or one that does not come ahead of "+strconv.Itoa(above))
		return "?"
	}
	if s.seen[n] {
		s.note(n, "in two others")
	}
	s.seen[n] = true
	x := s.program.Nodes[n]
	f, is := formOf(x.Kind)
	if !is || !may(sort, x.Kind) {
		s.note(n, "a node of the kind "+strconv.Itoa(x.Kind)+" where "+string(sort)+" is wanted")
		return "?"
	}
	s.unused(n, x, f)
	words := []string{s.head(x, f)}
	for i := range f.parts {
		part, sort := fieldsOf(x)[i], f.parts[i]
		switch {
		case sort == 'x' || sort == 'y':
			words = append(words, s.list(part, n, sort)...)
		case (sort == 'E' || sort == 'S') && part == -1:
			words = append(words, "-")
		default:
			words = append(words, s.node(part, n, sort))
		}
	}
	if x.Kind <= core.Frame {
		return words[0]
	}
	return "(" + strings.Join(words, " ") + ")"
}

// head is a node without its parts.
func (s *shower) head(x api.Node, f form) string {
	at := ""
	if s.places {
		at = "@" + strconv.Itoa(x.At)
	}
	switch {
	case x.Kind == core.One || x.Kind == core.Two:
		return word.Name(api.Op(x.N)) + at
	case f.text:
		return f.name + " " + x.Text + at
	case x.Kind == core.Set || x.Kind == tree.Case:
		return f.name + " " + strconv.Itoa(x.N) + at
	case f.n:
		return f.name + strconv.Itoa(x.N) + at
	}
	return f.name + at
}

// unused finds fields that a kind does not use, and that are not empty, and operations that are none.
func (s *shower) unused(n int, x api.Node, f form) {
	if !f.text && x.Text != "" || !f.n && x.N != 0 || x.Type != 0 {
		s.note(n, "a Text, N or Type that "+f.name+" does not use")
	}
	for i, part := range fieldsOf(x) {
		if i >= len(f.parts) && part != -1 {
			s.note(n, "a part that "+f.name+" does not use")
		}
	}
	if x.Kind == core.One && !word.One(api.Op(x.N)) || x.Kind == core.Two && !word.Two(api.Op(x.N)) || !word.Is(x.N) {
		s.note(n, "no operation, or no word")
	}
}

func (s *shower) list(n, above int, sort byte) []string {
	var items []string
	for n != -1 {
		if n < 0 || n >= len(s.program.Nodes) || n >= above || s.program.Nodes[n].Kind != tree.Item || s.seen[n] {
			s.note(n, "no list, or one that does not come ahead of "+strconv.Itoa(above))
			break
		}
		s.seen[n] = true
		x := s.program.Nodes[n]
		items = append(items, s.node(x.A, n, sort))
		if x.C != -1 || x.D != -1 || x.Text != "" || x.N != 0 || x.Type != 0 {
			s.note(n, "a field that Item does not use")
		}
		n, above = x.B, n
	}
	return items
}

// shown is the text of a program: a line for each global and function.
func shown(t *testing.T, p core.Program, places bool) string {
	t.Helper()
	s := &shower{program: p, places: places, seen: map[int]bool{}}
	text := ""
	for _, g := range p.Globals {
		text += g.Name + " " + strconv.Itoa(g.At) + " " + strconv.Itoa(g.Size) + " " + strconv.Itoa(g.Init) + "\n"
	}
	text += strconv.Itoa(p.Top) + "\n"
	for _, f := range p.Funcs {
		text += f.Name + " " + strconv.Itoa(f.Params) + " " + strconv.Itoa(f.Regs) + " " + strconv.Itoa(f.Frame) + " " + s.node(f.Body, len(p.Nodes), 'b') + "\n"
	}
	if len(s.seen) != len(p.Nodes) {
		s.wrong = append(s.wrong, "nodes that nothing contains")
	}
	if len(s.wrong) > 0 {
		t.Fatalf("%s: %s", text, strings.Join(s.wrong, "; "))
	}
	if !core.Right(p) {
		t.Fatalf("%s: not Right", text)
	}
	return text
}

// read is the program of a source without an error.
func read(t *testing.T, source string) core.Program {
	t.Helper()
	p, at, errno := core.Read(source)
	if at != 0 || errno != api.OK {
		t.Fatalf("Read(%.300q): error %d at %d", source, errno, at)
	}
	return p
}

// whole holds that the program of a source is what the lines say: its globals, Top, and functions.
func whole(t *testing.T, source string, lines ...string) {
	t.Helper()
	if got, want := shown(t, read(t, source), false), strings.Join(lines, "\n")+"\n"; got != want {
		t.Errorf("%q:\n%s; wanted\n%s", source, got, want)
	}
}

// inside is what becomes of the statements of main, behind the declarations of what is global.
func inside(t *testing.T, globals, statements string) string {
	t.Helper()
	p := read(t, globals+" int main(){"+statements+"}")
	shown(t, p, false)
	s := &shower{program: p, seen: map[int]bool{}}
	block := core.List(p, p.Nodes[p.Funcs[core.Find(p, "main")].Body].A)[0]
	return strings.Join(s.list(p.Nodes[block].A, len(p.Nodes), 'y'), " ")
}

// marked is a source without its mark, a byte that begins no token, and where that stands.
func marked(t *testing.T, source string) (string, int) {
	t.Helper()
	before, behind, is := strings.Cut(source, "@")
	if !is || strings.Contains(behind, "@") {
		t.Fatalf("%q has no mark, or two", source)
	}
	return before + behind, len(before)
}

func tail(s string) string { return s[max(0, len(s)-60):] }

// refused holds that a source has an error where its mark stands, and no program.
func refused(t *testing.T, source string, want api.Errno) {
	t.Helper()
	unmarked, place := marked(t, source)
	p, at, errno := core.Read(unmarked)
	if errno != want || at != place {
		t.Errorf("%.200s .. %q: error %d at %d; wanted error %d at %d", source, tail(source), errno, at, want, place)
	}
	if len(p.Nodes)+len(p.Funcs)+len(p.Globals)+p.Top != 0 {
		t.Errorf("%.200s: a program beside an error: %v", source, p)
	}
}
