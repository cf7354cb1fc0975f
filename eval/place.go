package eval

import (
	"slices"

	"doppel/api"
	"doppel/core"
	"doppel/tree"
)

// place is where a statement or a list is: the node that it is a part of, the body, and the innermost switch; none where there is none. The outer node of a list's rest is that of the list, so the way out of a list is as short from each of its items.
type place struct {
	outer, body, choice int
}

// mark is what a goto or a switch looks for: a label within a body, or a case or default within a switch.
type mark struct {
	kind, within, n int
	text            string
}

// places are where the nodes of a program are, and the nodes that have marks.
type places struct {
	of    []place
	marks map[mark]int
}

// placesOf goes from the last node on, for a node comes after its parts.
func placesOf(p core.Program) places {
	l := places{slices.Repeat([]place{{none, none, none}}, len(p.Nodes)), map[mark]int{}}
	for _, f := range p.Funcs {
		l.of[f.Body].body = f.Body
	}
	for n, x := range slices.Backward(p.Nodes) {
		here := l.of[n]
		l.note(n, x)
		within := place{n, here.body, here.choice}
		if x.Kind == tree.Switch {
			within.choice = n
		}
		for _, part := range inner(x) {
			if part != none {
				l.of[part] = within
			}
		}
		if x.Kind == tree.Item && x.B != none {
			l.of[x.B] = here
		}
	}
	return l
}

// note takes in what may be looked for.
func (l places) note(n int, x api.Node) {
	here := l.of[n]
	switch x.Kind {
	case tree.Label:
		l.marks[mark{kind: x.Kind, within: here.body, text: x.Text}] = n
	case tree.Case:
		l.marks[mark{kind: x.Kind, within: here.choice, n: x.N}] = n
	case tree.Default:
		l.marks[mark{kind: x.Kind, within: here.choice}] = n
	}
}

// inner are the statements and lists that a statement or a list has as its parts, but for the rest of a list.
func inner(x api.Node) []int {
	switch x.Kind {
	case tree.Label, tree.Case, tree.Default, tree.Block, tree.Item:
		return []int{x.A}
	case tree.While, tree.DoWhile, tree.Switch:
		return []int{x.B}
	case tree.For:
		return []int{x.D}
	case tree.If:
		return []int{x.B, x.C}
	}
	return nil
}
