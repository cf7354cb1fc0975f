package graph_test

import (
	"fmt"
	"reflect"
	"strconv"
	"strings"
	"testing"

	"doppel/api"
	"doppel/code"
	"doppel/graph"
	"doppel/sample"
)

// straight is an instruction of each kind that goes on at the next one; any place may have any of them.
func straight() []api.Instr { return sample.Kinds()[:10] }

func branch(to, otherwise int) api.Instr { return sample.Branch(1, to, otherwise) }

func give() api.Instr { return sample.Return(3) }

func function(l ...api.Instr) api.Func { return sample.Func("f", 1, 4, 3, l...) }

// drawn is a function with "." where it goes on at the next instruction, "j5" for a Jump, "b5,6" for a Branch, "r" for a Return.
func drawn(text string) api.Func {
	var l []api.Instr
	for at, word := range strings.Fields(text) {
		switch a, b, _ := strings.Cut(word[1:], ","); word[0] {
		case '.':
			l = append(l, straight()[at%10])
		case 'j':
			l = append(l, sample.Jump(read(a)))
		case 'b':
			l = append(l, branch(read(a), read(b)))
		case 'r':
			l = append(l, give())
		}
	}
	return function(l...)
}

func read(text string) int {
	n, err := strconv.Atoi(text)
	if err != nil {
		panic(err)
	}
	return n
}

func number(n int) string { return strconv.Itoa(n) }

// show draws a function as drawn reads it.
func show(f api.Func) string {
	var l []string
	for at, i := range f.Code {
		switch next := code.Next(i, at); {
		case i.Kind == api.Jump:
			l = append(l, "j"+number(next[0]))
		case i.Kind == api.Branch:
			l = append(l, "b"+number(next[0])+","+number(next[1]))
		case i.Kind == api.Return:
			l = append(l, "r")
		default:
			l = append(l, ".")
		}
	}
	return strings.Join(l, " ")
}

// all is what the package tells of a function.
type all struct {
	before  [][]int
	reached []bool
	order   []int
	above   []int
	heads   []int
	loops   map[int][]int // of the instructions that have one
	over    [][2]int      // the first one dominates the second one
}

// told asks for everything, of indexes that are no instructions, too.
func told(f api.Func) all {
	l := all{before: graph.Before(f), reached: graph.Reached(f), order: graph.Order(f), above: graph.Above(f), heads: graph.Heads(f), loops: map[int][]int{}}
	indexes := sample.Huge()
	for at := -3; at < len(f.Code)+3; at++ {
		indexes = append(indexes, at)
	}
	for _, a := range indexes {
		if loop := graph.Loop(f, a); len(loop) > 0 {
			l.loops[a] = loop
		}
		for _, b := range indexes {
			if graph.Dominates(f, a, b) {
				l.over = append(l.over, [2]int{a, b})
			}
		}
	}
	return l
}

func same[T any](t *testing.T, what string, got, want []T) {
	t.Helper()
	if len(got)+len(want) > 0 && !reflect.DeepEqual(got, want) {
		t.Errorf("%.300s is %.300s; wanted %.300s", what, fmt.Sprint(got), fmt.Sprint(want))
	}
}

// holds holds all that is told of a function.
func holds(t *testing.T, what string, f api.Func, want all) {
	t.Helper()
	got := told(f)
	same(t, what+": Before", sample.Lists(got.before), sample.Lists(want.before))
	same(t, what+": Reached", got.reached, want.reached)
	same(t, what+": Order", got.order, want.order)
	same(t, what+": Above", got.above, want.above)
	same(t, what+": Heads", got.heads, want.heads)
	same(t, what+": Dominates", got.over, want.over)
	if !reflect.DeepEqual(got.loops, want.loops) {
		t.Errorf("%s: Loop is %v; wanted %v", what, got.loops, want.loops)
	}
}
