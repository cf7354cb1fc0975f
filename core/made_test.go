package core_test

import (
	"math"
	"math/rand"
	"reflect"
	"strings"
	"testing"

	"doppel/api"
	"doppel/core"
	"doppel/lex"
	"doppel/tree"
)

// answered holds that Of answers as it must, and twice the same.
func answered(t *testing.T, of tree.Tree) {
	t.Helper()
	p, at, errno := core.Of(of)
	q, atAgain, errnoAgain := core.Of(of)
	if !reflect.DeepEqual(p, q) || at != atAgain || errno != errnoAgain {
		t.Fatal("two answers for the same tree")
	}
	if errno != api.OK && len(p.Nodes)+len(p.Funcs)+len(p.Globals)+p.Top != 0 {
		t.Fatal("a program beside an error:", errno, p)
	}
	if errno == api.OK && at != 0 {
		t.Fatal("a place without an error:", at)
	}
}

// TestTreesMade holds that trees that Parse does not make have an answer, too.
func TestTreesMade(t *testing.T) {
	node := func(kind, a, b, c, d int) api.Node { return api.Node{Kind: kind, A: a, B: b, C: c, D: d, Text: "main"} }
	basic := []api.Type{{Kind: 0}, {Kind: 1}, {Kind: 2}, {Kind: 3}}
	for _, of := range []tree.Tree{
		{}, {Top: -1}, {Top: 5}, {Nodes: []api.Node{node(tree.Item, 0, 0, 0, 0)}}, {Nodes: []api.Node{node(tree.Item, 7, -1, 0, 0)}}, {Nodes: []api.Node{node(tree.Whole, 0, 0, 0, 0), node(tree.Item, 0, -1, 0, 0)}, Top: 1}, {Nodes: []api.Node{node(tree.Num, 0, 0, 0, 0), node(tree.Item, 0, -1, 0, 0)}, Top: 1},
		{Types: basic, Nodes: []api.Node{node(tree.Function, 0, 0, 0, 0), node(tree.Item, 0, -1, 0, 0)}, Top: 1}, {Types: basic, Nodes: []api.Node{node(tree.Function, -1, -1, 0, 0), node(tree.Item, 0, -1, 0, 0)}, Top: 1}, {Types: basic, Nodes: []api.Node{node(tree.Function, -1, 5, 0, 0), node(tree.Item, 0, -1, 0, 0)}, Top: 1}, {Types: basic, Nodes: []api.Node{node(tree.Structure, 0, 0, 0, 0), node(tree.Item, 0, -1, 0, 0)}, Top: 1},
		{Types: []api.Type{{Kind: api.Pointer}}, Nodes: []api.Node{node(tree.Whole, 0, 0, 0, 0), node(tree.Item, 0, -1, 0, 0)}, Top: 1}, {Types: []api.Type{{Kind: api.Array, Elem: 1, N: 1}, {Kind: api.Pointer, Elem: 0}}, Nodes: []api.Node{node(tree.Whole, 0, 0, 0, 0), node(tree.Item, 0, -1, 0, 0)}, Top: 1}, {Types: []api.Type{{Kind: 77}}, Nodes: []api.Node{node(tree.Whole, 0, 0, 0, 0), node(tree.Item, 0, -1, 0, 0)}, Top: 1},
	} {
		answered(t, of)
	}
	// A tree that is changed in one place.
	of, _, _ := tree.Read(small + "struct s{int a[2];};struct s v;")
	for n := range of.Nodes {
		for _, to := range []int{-7, -1, 0, 1, n - 1, n, n + 1, len(of.Nodes) - 1, len(of.Nodes), 1 << 40, math.MaxInt, math.MinInt} {
			for _, field := range []*int{&of.Nodes[n].A, &of.Nodes[n].B, &of.Nodes[n].C, &of.Nodes[n].D, &of.Nodes[n].Kind, &of.Nodes[n].N, &of.Nodes[n].Type, &of.Top} {
				kept := *field
				*field = to
				answered(t, of)
				*field = kept
			}
		}
		for kind := range 60 {
			kept := of.Nodes[n].Kind
			of.Nodes[n].Kind = kind
			answered(t, of)
			of.Nodes[n].Kind = kept
		}
		for _, text := range []string{"", "+", "&", "=", "a", "main", "$", "<<=", "*="} {
			kept := of.Nodes[n].Text
			of.Nodes[n].Text = text
			answered(t, of)
			of.Nodes[n].Text = kept
		}
	}
	for n := range of.Types {
		for _, to := range []api.Type{{}, {Kind: 7}, {Kind: -1}, {Kind: api.Pointer, Elem: n}, {Kind: api.Pointer, Elem: -1}, {Kind: api.Array, Elem: n, N: 1}, {Kind: api.Array, Elem: 99, N: 1}, {Kind: api.Array, Elem: 1, N: math.MinInt}, {Kind: api.Struct}, {Kind: api.Pointer, Elem: len(of.Types) - 1}} {
			kept := of.Types[n]
			of.Types[n] = to
			answered(t, of)
			of.Types[n] = kept
		}
	}
}

// TestProgramsMade holds that programs that Of does not make have an answer, too.
func TestProgramsMade(t *testing.T) {
	for _, p := range []core.Program{
		{Funcs: []core.Func{{Body: math.MaxInt}}}, {Funcs: []core.Func{{Body: math.MinInt}}}, {Nodes: []api.Node{{Kind: tree.Block, A: 0}}}, {Funcs: []core.Func{{Body: 0}}, Nodes: []api.Node{{Kind: tree.Block, A: 0}}}, {Nodes: []api.Node{{Kind: math.MaxInt, A: math.MinInt}, {Kind: math.MinInt}}}, {Nodes: []api.Node{item(1, 1), item(0, 0)}},
	} {
		if core.Print(p) != core.Print(p) {
			t.Error("two texts of", p)
		}
		core.Right(p)
		core.List(p, 0)
	}
}

// TestSourcesChanged holds that sources in which tokens are changed have a program that is Right, or an error at a token's place.
func TestSourcesChanged(t *testing.T) {
	random := rand.New(rand.NewSource(7))
	var words []string
	places := func(source string) map[int]int {
		l, _, _ := lex.Scan(source)
		at := map[int]int{0: 1}
		for _, token := range l {
			at[token.At]++
		}
		return at
	}
	programs := map[api.Errno]int{}
	for _, source := range []string{small, broad} {
		l, _, _ := lex.Scan(source)
		for _, token := range l[:len(l)-1] {
			words = append(words, token.Text)
		}
		own := words[len(words)-len(l)+1:]
		for range 6000 {
			next := append([]string{}, own...)
			for range 1 + random.Intn(2) {
				next[random.Intn(len(next))] = words[random.Intn(len(words))]
			}
			text := strings.Join(next, " ")
			p, at, errno := core.Read(text)
			programs[errno]++
			if errno == api.OK {
				shown(t, p, false)
			} else if places(text)[at] == 0 {
				t.Fatalf("%s: error %d at %d", text, errno, at)
			}
		}
	}
	for _, errno := range []api.Errno{api.OK, api.ErrSyntax, api.ErrName, api.ErrType, api.ErrFlow, api.ErrMain} {
		if programs[errno] == 0 {
			t.Error("no source with the error", errno, programs)
		}
	}
}
