package tree_test

import (
	"math"
	"reflect"
	"strings"
	"testing"

	"doppel/api"
	"doppel/tree"
)

func equal(a, b []int) bool { return len(a) == 0 && len(b) == 0 || reflect.DeepEqual(a, b) }

func item(a, b int) api.Node { return api.Node{Kind: tree.Item, A: a, B: b, C: -1, D: -1} }

func TestList(t *testing.T) {
	of := read(t, "int a;int b;int f(int c,int d){;;;}")
	for _, c := range []struct {
		n     int
		kinds []int
	}{
		{of.Top, []int{tree.Whole, tree.Whole, tree.Function}}, {of.Nodes[of.Top].B, []int{tree.Whole, tree.Function}}, {-1, nil}, {-2, nil}, {len(of.Nodes), nil}, {len(of.Nodes) + 1, nil}, {math.MaxInt, nil}, {math.MinInt, nil},
		{of.Nodes[of.Nodes[len(of.Nodes)-1].A].A, nil},
	} {
		var kinds []int
		for _, n := range tree.List(of, c.n) {
			kinds = append(kinds, of.Nodes[n].Kind)
		}
		if !equal(kinds, c.kinds) {
			t.Errorf("List(%d): kinds %v; wanted %v", c.n, kinds, c.kinds)
		}
	}
	for n, x := range of.Nodes {
		if got := tree.List(of, n); x.Kind != tree.Item && len(got) > 0 {
			t.Errorf("List of a node of the kind %d: %v", x.Kind, got)
		}
		if x.Kind == tree.Function {
			params := tree.List(of, x.A)
			statements := tree.List(of, of.Nodes[x.B].A)
			if len(params) != 2 || of.Nodes[params[0]].Text != "c" || of.Nodes[params[1]].Text != "d" || len(statements) != 3 {
				t.Errorf("params %v, statements %v", params, statements)
			}
		}
	}
}

// TestListsMade holds lists that Parse does not make.
func TestListsMade(t *testing.T) {
	num := api.Node{Kind: tree.Num, A: 0, B: 0, C: -1, D: -1}
	for name, c := range map[string]struct {
		nodes []api.Node
		n     int
		want  []int
	}{
		"no nodes":                         {nil, 0, nil},
		"no item":                          {[]api.Node{num}, 0, nil},
		"one item":                         {[]api.Node{num, item(0, -1)}, 1, []int{0}},
		"an item that is no node":          {[]api.Node{item(7, -1)}, 0, []int{7}},
		"a rest that is no node":           {[]api.Node{num, item(0, 2)}, 1, []int{0}},
		"a rest far away":                  {[]api.Node{num, item(0, math.MinInt)}, 1, []int{0}},
		"a rest of another kind":           {[]api.Node{num, item(0, 0)}, 1, []int{0}},
		"a rest behind":                    {[]api.Node{item(1, 2), num, item(3, -1), num}, 0, []int{1, 3}},
		"a list that comes back to itself": {[]api.Node{item(7, 0)}, 0, []int{7}},
		"two that come back":               {[]api.Node{item(7, 1), item(8, 0)}, 1, []int{8, 7}},
		"three that come back":             {[]api.Node{item(7, 1), item(8, 2), item(9, 0)}, 0, []int{7, 8, 9}},
		"a kind that there is not":         {[]api.Node{{Kind: -20, A: 0, B: -1}}, 0, nil},
		"as many items as nodes":           {[]api.Node{item(0, -1), item(1, 0), item(2, 1), item(3, 2)}, 3, []int{3, 2, 1, 0}},
	} {
		of := tree.Tree{Nodes: c.nodes, Top: c.n}
		if got := tree.List(of, c.n); !equal(got, c.want) {
			t.Errorf("%s: %v; wanted %v", name, got, c.want)
		}
	}
	// However a list comes back, it has no more items than there are nodes.
	of := tree.Tree{Nodes: []api.Node{num, num, item(0, 3), item(1, 2), num}}
	if got := tree.List(of, 3); len(got) < 2 || len(got) > 5 || got[0] != 1 || got[1] != 0 {
		t.Errorf("a list that never ends: %v", got)
	}
}

func TestText(t *testing.T) {
	of := read(t, "int**a;struct s*b[3];char c[1000];void*d;unsigned e;struct void_ f;")
	want := []string{"void", "int", "unsigned", "char", "int*", "int**", "struct s", "struct s*", "struct s*[3]", "char[1000]", "void*", "struct void_"}
	if len(of.Types) != len(want) {
		t.Fatal("types:", of.Types)
	}
	for n, text := range want {
		if got := tree.Text(of, n); got != text {
			t.Errorf("Text(%d): %q; wanted %q", n, got, text)
		}
	}
	for _, n := range []int{-1, -2, len(want), len(want) + 1, math.MaxInt, math.MinInt} {
		if got := tree.Text(of, n); got != "" {
			t.Errorf("Text(%d): %q", n, got)
		}
	}
	if got := tree.Text(tree.Tree{}, 0); got != "" {
		t.Errorf("Text of no type: %q", got)
	}
}

// TestTextsMade holds types that Parse does not make.
func TestTextsMade(t *testing.T) {
	basic := []api.Type{{Kind: api.Void}, {Kind: api.Int}, {Kind: api.Unsigned}, {Kind: api.Char}}
	made := func(l ...api.Type) tree.Tree { return tree.Tree{Types: append(basic[:4:4], l...), Top: -1} }
	for want, l := range map[string][]api.Type{
		"int[3]*":          {{Kind: api.Array, Elem: 1, N: 3}, {Kind: api.Pointer, Elem: 4}},
		"char[2][30]":      {{Kind: api.Array, Elem: 3, N: 2}, {Kind: api.Array, Elem: 4, N: 30}},
		"unsigned*[0]*[1]": {{Kind: api.Pointer, Elem: 2}, {Kind: api.Array, Elem: 4, N: 0}, {Kind: api.Pointer, Elem: 5}, {Kind: api.Array, Elem: 6, N: 1}},
		"void*":            {{Kind: api.Pointer, Elem: 0}},
		"struct a*":        {{Kind: api.Struct, Name: "a"}, {Kind: api.Pointer, Elem: 4}},
	} {
		of := made(l...)
		if got := tree.Text(of, len(of.Types)-1); got != want {
			t.Errorf("Text: %q; wanted %q", got, want)
		}
	}
	// Types that come back to themselves have a text that ends.
	for name, of := range map[string]tree.Tree{
		"a pointer to itself":     {Types: []api.Type{{Kind: api.Pointer, Elem: 0}}},
		"an array of itself":      {Types: []api.Type{{Kind: api.Array, Elem: 0, N: 5}}},
		"two that come back":      made(api.Type{Kind: api.Pointer, Elem: 5}, api.Type{Kind: api.Pointer, Elem: 4}),
		"a pointer to itself too": made(api.Type{Kind: api.Pointer, Elem: 4}),
	} {
		for n := range of.Types {
			got := tree.Text(of, n)
			if kind := of.Types[n].Kind; kind < api.Pointer {
				continue
			} else if kind == api.Array && strings.Trim(got, "[5]") != "" || kind == api.Pointer && strings.Trim(got, "*") != "" || strings.Count(got, "*")+strings.Count(got, "[") > len(of.Types)+1 {
				t.Errorf("%s: Text(%d): %q", name, n, got)
			}
		}
	}
	// An Elem that is no type is without a text; what is there is written all the same, or nothing is.
	for _, elem := range []int{-1, 5, math.MaxInt, math.MinInt} {
		if got := tree.Text(made(api.Type{Kind: api.Pointer, Elem: elem}), 4); got != "*" && got != "" {
			t.Errorf("Text of a pointer to the type %d: %q", elem, got)
		}
	}
	for _, kind := range []int{-1, 7, math.MaxInt, math.MinInt} {
		tree.Text(made(api.Type{Kind: kind, Elem: 1, N: 2, Name: "a"}), 4)
	}
}

// TestTokensChanged holds that Parse does not change its tokens, and keeps none.
func TestTokensChanged(t *testing.T) {
	for _, source := range []string{"", "int a;", broad, "int f(){return (1;}", strings.Repeat("int a;", 500)} {
		for _, ended := range []bool{true, false} {
			base := scan(t, source)
			if !ended {
				base = base[:len(base)-1]
			}
			// Room behind the list, which is not the call's to use.
			room := make([]api.Token, len(base), len(base)+4)
			copy(room, base)
			behind := room[:cap(room)]
			for i := len(base); i < len(behind); i++ {
				behind[i] = api.Token{Kind: api.Name, Text: "behind", At: i}
			}
			before := append([]api.Token{}, behind...)
			of, at, errno := tree.Parse(room)
			if !reflect.DeepEqual(behind, before) {
				t.Fatalf("%.50q: Parse changed its tokens", source)
			}
			for i := range behind {
				behind[i] = api.Token{Kind: api.Sign, Text: "?", N: 77, At: 77}
			}
			again, atAgain, errnoAgain := tree.Parse(base)
			if !reflect.DeepEqual(of, again) || at != atAgain || errno != errnoAgain {
				t.Fatalf("%.50q: tokens that are changed behind the call change its tree", source)
			}
		}
	}
}

// TestTreesApart holds that results share no memory with one another, or with arguments.
func TestTreesApart(t *testing.T) {
	a, b, kept := read(t, broad), read(t, broad), read(t, broad)
	items := tree.List(a, a.Top)
	if !reflect.DeepEqual(items, tree.List(b, b.Top)) {
		t.Fatal("two lists of the same differ")
	}
	for i := range items[:cap(items)] {
		items[:cap(items)][i] = -7
	}
	for i := range a.Nodes[:cap(a.Nodes)] {
		a.Nodes[:cap(a.Nodes)][i] = api.Node{Kind: -7}
	}
	if !reflect.DeepEqual(b, kept) || !reflect.DeepEqual(a.Types, kept.Types) {
		t.Error("a tree changes with another one's nodes")
	}
	for i := range a.Types[:cap(a.Types)] {
		a.Types[:cap(a.Types)][i] = api.Type{Kind: -7}
	}
	if !reflect.DeepEqual(b, kept) || !reflect.DeepEqual(read(t, broad), kept) {
		t.Error("a tree changes with another one's types")
	}
	tree.List(b, b.Top)
	tree.Print(b)
	tree.Text(b, 5)
	if !reflect.DeepEqual(b, kept) {
		t.Error("List, Print or Text changed its tree")
	}
}

// TestPlaces holds that a tree has the places that its tokens have, whatever they are.
func TestPlaces(t *testing.T) {
	for _, by := range []int{1, -1000, 1 << 40, math.MinInt} {
		l, of := scan(t, broad), read(t, broad)
		for i := range l {
			l[i].At += by
		}
		for i := range of.Nodes {
			of.Nodes[i].At += by
		}
		if got, at, errno := tree.Parse(l); at != 0 || errno != api.OK || !reflect.DeepEqual(got, of) {
			t.Errorf("places by %d: error %d at %d, or another tree", by, errno, at)
		}
		l[100] = api.Token{Kind: api.Sign, Text: "@", At: 100 + by}
		if got, at, errno := tree.Parse(l); at != 100+by || errno != api.ErrSyntax || len(got.Nodes) > 0 {
			t.Errorf("places by %d: error %d at %d; wanted error %d at %d", by, errno, at, api.ErrSyntax, 100+by)
		}
	}
}

// TestAnyTokens holds that lists that Scan does not make have an answer, too.
func TestAnyTokens(t *testing.T) {
	strange := []api.Token{{Kind: -1}, {Kind: 5}, {Kind: math.MaxInt}, {Kind: math.MinInt}, {Kind: api.Sign}, {Kind: api.Word}, {Kind: api.Sign, Text: "@"}, {Kind: api.Word, Text: "a"}, {Kind: api.Sign, Text: "<>"}}
	base := scan(t, broad)
	for i := range len(base) - 1 {
		for _, x := range strange {
			l := append([]api.Token{}, base...)
			x.At = l[i].At
			l[i] = x
			if of, at, errno := tree.Parse(l); errno != api.ErrSyntax || at != l[i].At || len(of.Nodes)+len(of.Types)+of.Top != 0 {
				t.Fatalf("token %d as %v: error %d at %d; wanted error %d at %d", i, x, errno, at, api.ErrSyntax, l[i].At)
			}
		}
	}
	for _, n := range []int{math.MaxInt, math.MinInt, -5} {
		l := scan(t, "int a = - 1 ; int b [ 1 ] ; int f ( ) { case - 1 : 1 ; }")
		for i := range l {
			if l[i].Kind == api.Number {
				l[i].N = n
			}
		}
		if _, at, errno := tree.Parse(l); at != 0 || errno != api.OK {
			t.Errorf("a number %d: error %d at %d", n, errno, at)
		}
	}
}
