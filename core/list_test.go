package core_test

import (
	"math"
	"reflect"
	"testing"

	"doppel/api"
	"doppel/core"
	"doppel/tree"
)

func equal(a, b []int) bool { return len(a) == 0 && len(b) == 0 || reflect.DeepEqual(a, b) }

func item(a, b int) api.Node { return api.Node{Kind: tree.Item, A: a, B: b, C: -1, D: -1} }

func TestFind(t *testing.T) {
	p := read(t, "int f(){}int g;int main(){}int mainly(){}")
	for name, want := range map[string]int{"f": 0, "main": 1, "mainly": 2, "g": -1, "": -1, "F": -1, "mai": -1, "main ": -1, "int": -1} {
		if got := core.Find(p, name); got != want {
			t.Errorf("Find(%q): %d; wanted %d", name, got, want)
		}
	}
	if got := core.Find(core.Program{}, ""); got != -1 {
		t.Error("Find in an empty program:", got)
	}
	if got := core.Find(core.Program{}, "main"); got != -1 {
		t.Error("Find in an empty program:", got)
	}
	twice := core.Program{Funcs: []core.Func{{Name: "a"}, {Name: ""}, {Name: "b"}, {Name: "b"}}}
	if a, b, c := core.Find(twice, "b"), core.Find(twice, ""), core.Find(twice, "c"); a != 2 || b != 1 || c != -1 {
		t.Error("Find of one of two, of an empty one, of none:", a, b, c)
	}
}

func TestList(t *testing.T) {
	p := read(t, "int f(int a,int b){}int main(){;1;return f(2,3);}")
	block := p.Nodes[core.List(p, p.Nodes[p.Funcs[1].Body].A)[0]]
	var kinds []int
	statements := core.List(p, block.A)
	for _, n := range statements {
		kinds = append(kinds, p.Nodes[n].Kind)
	}
	if !equal(kinds, []int{tree.Empty, tree.Do, tree.Give}) {
		t.Fatal("statements:", kinds)
	}
	arguments := core.List(p, p.Nodes[p.Nodes[statements[2]].A].A)
	if len(arguments) != 2 || p.Nodes[arguments[0]].N != 2 || p.Nodes[arguments[1]].N != 3 {
		t.Error("arguments:", arguments)
	}
	for n, x := range p.Nodes {
		if l := core.List(p, n); x.Kind != tree.Item && len(l) > 0 || x.Kind == tree.Item && len(l) == 0 {
			t.Errorf("List of a node of the kind %d: %v", x.Kind, l)
		}
	}
	for _, n := range []int{-1, -2, len(p.Nodes), len(p.Nodes) + 1, math.MaxInt, math.MinInt} {
		if l := core.List(p, n); len(l) > 0 {
			t.Errorf("List(%d): %v", n, l)
		}
	}
}

// TestListsMade holds lists that Of does not make.
func TestListsMade(t *testing.T) {
	num := api.Node{Kind: core.Num, A: 0, B: 0, C: -1, D: -1}
	for name, c := range map[string]struct {
		nodes []api.Node
		n     int
		want  []int
	}{
		"no nodes":                         {nil, 0, nil},
		"no item":                          {[]api.Node{num}, 0, nil},
		"one item":                         {[]api.Node{num, item(0, -1)}, 1, []int{0}},
		"an item that is no node":          {[]api.Node{item(7, -1)}, 0, []int{7}},
		"a rest that is no node":           {[]api.Node{num, item(0, 2)}, 1, []int{0}},
		"a rest of another kind":           {[]api.Node{num, item(0, 0)}, 1, []int{0}},
		"a rest behind":                    {[]api.Node{item(1, 2), num, item(3, -1), num}, 0, []int{1, 3}},
		"a list that comes back to itself": {[]api.Node{item(7, 0)}, 0, []int{7}},
		"two that come back":               {[]api.Node{item(7, 1), item(8, 0)}, 1, []int{8, 7}},
		"as many items as nodes":           {[]api.Node{item(0, -1), item(1, 0), item(2, 1)}, 2, []int{2, 1, 0}},
	} {
		if got := core.List(core.Program{Nodes: c.nodes}, c.n); !equal(got, c.want) {
			t.Errorf("%s: %v; wanted %v", name, got, c.want)
		}
	}
	// However a list comes back, it has no more items than there are nodes.
	p := core.Program{Nodes: []api.Node{num, num, item(0, 3), item(1, 2), num}}
	if got := core.List(p, 3); len(got) < 2 || len(got) > 5 || got[0] != 1 || got[1] != 0 {
		t.Errorf("a list that never ends: %v", got)
	}
}

// spoil changes all that a program's lists have, and the room behind them.
func spoil(p core.Program) {
	for i := range p.Nodes[:cap(p.Nodes)] {
		p.Nodes[:cap(p.Nodes)][i] = api.Node{Kind: -7, Text: "spoiled"}
	}
	for i := range p.Funcs[:cap(p.Funcs)] {
		p.Funcs[:cap(p.Funcs)][i] = core.Func{Name: "spoiled", Body: -7}
	}
	for i := range p.Globals[:cap(p.Globals)] {
		p.Globals[:cap(p.Globals)][i] = api.Global{Name: "spoiled", At: -7}
	}
}

// roomy is a tree whose lists have room behind them, and a check that nothing in it has changed.
func roomy(t *testing.T, source string) (tree.Tree, func()) {
	of, _, errno := tree.Read(source)
	if errno != api.OK {
		t.Fatal(source, errno)
	}
	nodes, types := make([]api.Node, len(of.Nodes)+3), make([]api.Type, len(of.Types)+3)
	copy(nodes, of.Nodes)
	copy(types, of.Types)
	keptNodes, keptTypes := append([]api.Node{}, nodes...), append([]api.Type{}, types...)
	of.Nodes, of.Types = nodes[:len(of.Nodes)], types[:len(of.Types)]
	return of, func() {
		t.Helper()
		if !reflect.DeepEqual(nodes, keptNodes) || !reflect.DeepEqual(types, keptTypes) {
			t.Errorf("%.50q: the tree is changed", source)
		}
	}
}

// TestTreesChanged holds that Of does not change its tree, and keeps none of it.
func TestTreesChanged(t *testing.T) {
	for _, source := range []string{small, broad, "int main(){}", "int main(){return x;}", "int f(){goto x;}"} {
		of, unchanged := roomy(t, source)
		p, at, errno := core.Of(of)
		unchanged()
		text := core.Print(p)
		kept := changed(p, func(*core.Program) {})
		again, _ := roomy(t, source)
		for i := range of.Nodes {
			of.Nodes[i] = api.Node{Kind: tree.Num, Text: "changed", N: 77}
		}
		for i := range of.Types {
			of.Types[i] = api.Type{Kind: api.Struct, Name: "changed"}
		}
		q, qAt, qErrno := core.Of(again)
		if core.Print(p) != text || at != qAt || errno != qErrno || !reflect.DeepEqual(p, q) {
			t.Errorf("%.50q: a tree that is changed behind the call changes its program", source)
		}
		spoil(p)
		if len(kept.Nodes) > 0 && !reflect.DeepEqual(q.Nodes, kept.Nodes) {
			t.Errorf("%.50q: a program changes with another one", source)
		}
	}
}

// TestProgramsKept holds that no call changes its program, and that lists are new.
func TestProgramsKept(t *testing.T) {
	p := read(t, broad)
	kept := changed(p, func(*core.Program) {})
	body := p.Nodes[p.Funcs[0].Body].A
	core.Right(p)
	core.Print(p)
	core.Find(p, "main")
	l := core.List(p, body)
	for i := range l[:cap(l)] {
		l[:cap(l)][i] = -7
	}
	if !reflect.DeepEqual(p, kept) || len(core.List(p, body)) != 1 || core.List(p, body)[0] < 0 {
		t.Error("a call changed its program")
	}
}

// TestPlaces holds that each node has the place of a node of the tree, and that other places are in the program, and in its errors.
func TestPlaces(t *testing.T) {
	for _, source := range []string{small, broad} {
		of, _, _ := tree.Read(source)
		places := map[int]int{}
		for _, x := range of.Nodes {
			places[x.At]++
		}
		p := read(t, source)
		for n, x := range p.Nodes {
			if places[x.At] == 0 {
				t.Errorf("%.50q: node %d stands at %d", source, n, x.At)
			}
		}
		for n := range of.Nodes {
			of.Nodes[n].At = 1000 - of.Nodes[n].At
		}
		q, _, _ := core.Of(of)
		for n, x := range p.Nodes {
			if q.Nodes[n].At != 1000-x.At {
				t.Errorf("%.50q: node %d stands at %d; wanted %d", source, n, q.Nodes[n].At, 1000-x.At)
			}
		}
	}
	p := read(t, "int main(){int a=1;return a+a*2;}")
	if got, want := shown(t, p, true), "1\nmain 0 1 0 (block@0 (block@10 (do@11 (set 0@11 1@17)) (give@19 (add@27 r0@26 (mul@29 r0@28 2@30)))))\n"; got != want {
		t.Errorf("%s; wanted %s", got, want)
	}
	of, _, _ := tree.Read("int main(){return x;}")
	for n := range of.Nodes {
		of.Nodes[n].At -= 100
	}
	if _, at, errno := core.Of(of); at != 18-100 || errno != api.ErrName {
		t.Errorf("error %d at %d", errno, at)
	}
}
