package graph_test

import (
	"fmt"
	"math"
	"reflect"
	"slices"
	"strconv"
	"strings"
	"testing"

	"doppel/api"
	"doppel/code"
	"doppel/graph"
)

// straight is an instruction of each kind that goes on at the next one; any place may have any of them.
func straight() []api.Instr {
	return []api.Instr{
		{Kind: api.Const, Dst: 0, N: -7, Else: -1},
		{Kind: api.Unary, Op: api.Not, Dst: 1, Else: -1},
		{Kind: api.Binary, Op: api.Div, Dst: 1, A: 2, B: 3, Else: -1},
		{Kind: api.Copy, Dst: 2, A: 1, Else: -1},
		{Kind: api.Frame, Dst: 0, N: 3, Else: -1},
		{Kind: api.Load, Dst: 1, A: 2, Else: -1},
		{Kind: api.Store, Dst: -1, A: 1, B: 2, Else: -1},
		{Kind: api.Call, Dst: -1, N: 2, Text: "g", Args: [api.MaxParams]int{2, 3}, Else: -1},
		{Kind: api.Getc, Dst: 3, Else: -1},
		{Kind: api.Putc, Dst: -1, A: 2, Else: -1},
	}
}

func jump(to int) api.Instr { return api.Instr{Kind: api.Jump, Dst: -1, To: to, Else: -1} }

func branch(to, otherwise int) api.Instr {
	return api.Instr{Kind: api.Branch, Dst: -1, A: 1, To: to, Else: otherwise}
}

func give() api.Instr { return api.Instr{Kind: api.Return, Dst: -1, A: 3, Else: -1} }

func function(l ...api.Instr) api.Func {
	return api.Func{Name: "f", Params: 1, Regs: 4, Frame: 3, Code: l}
}

// drawn is a function with "." where it goes on at the next instruction, "j5" for a Jump, "b5,6" for a Branch, "r" for a Return.
func drawn(text string) api.Func {
	var l []api.Instr
	for at, word := range strings.Fields(text) {
		switch a, b, _ := strings.Cut(word[1:], ","); word[0] {
		case '.':
			l = append(l, straight()[at%10])
		case 'j':
			l = append(l, jump(read(a)))
		case 'b':
			l = append(l, branch(read(a), read(b)))
		case 'r':
			l = append(l, give())
		}
	}
	return function(l...)
}

func read(text string) int {
	n, err := strconv.Atoi(text)
	if err != nil {
		panic(err)
	}
	return n
}

func number(n int) string { return strconv.Itoa(n) }

// show draws a function as drawn reads it.
func show(f api.Func) string {
	var l []string
	for at, i := range f.Code {
		switch next := code.Next(i, at); {
		case i.Kind == api.Jump:
			l = append(l, "j"+number(next[0]))
		case i.Kind == api.Branch:
			l = append(l, "b"+number(next[0])+","+number(next[1]))
		case i.Kind == api.Return:
			l = append(l, "r")
		default:
			l = append(l, ".")
		}
	}
	return strings.Join(l, " ")
}

// all is what the package tells of a function.
type all struct {
	before  [][]int
	reached []bool
	order   []int
	above   []int
	heads   []int
	loops   map[int][]int // of the instructions that have one
	over    [][2]int      // the first one dominates the second one
}

// told asks for everything, of indexes that are no instructions, too.
func told(f api.Func) all {
	l := all{before: graph.Before(f), reached: graph.Reached(f), order: graph.Order(f), above: graph.Above(f), heads: graph.Heads(f), loops: map[int][]int{}}
	indexes := huge()
	for at := -3; at < len(f.Code)+3; at++ {
		indexes = append(indexes, at)
	}
	for _, a := range indexes {
		if loop := graph.Loop(f, a); len(loop) > 0 {
			l.loops[a] = loop
		}
		for _, b := range indexes {
			if graph.Dominates(f, a, b) {
				l.over = append(l.over, [2]int{a, b})
			}
		}
	}
	return l
}

// huge is numbers that are never indexes; 64 bits of some of them begin with those of a small number.
func huge() []int {
	return []int{math.MinInt, math.MinInt + 1, -1 << 32, 1 - 1<<32, -1 << 31, -1 << 13, 1 << 13, 1<<31 - 1, 1 << 31, 1 << 32, 1<<32 + 1, math.MaxInt - 1, math.MaxInt}
}

func same[T any](t *testing.T, what string, got, want []T) {
	t.Helper()
	if len(got)+len(want) > 0 && !reflect.DeepEqual(got, want) {
		t.Errorf("%.300s is %.300s; wanted %.300s", what, fmt.Sprint(got), fmt.Sprint(want))
	}
}

// lists is one with nil for each empty list in it.
func lists(l [][]int) [][]int {
	l = slices.Clone(l)
	for k := range l {
		if len(l[k]) == 0 {
			l[k] = nil
		}
	}
	return l
}

// holds holds all that is told of a function.
func holds(t *testing.T, what string, f api.Func, want all) {
	t.Helper()
	got := told(f)
	same(t, what+": Before", lists(got.before), lists(want.before))
	same(t, what+": Reached", got.reached, want.reached)
	same(t, what+": Order", got.order, want.order)
	same(t, what+": Above", got.above, want.above)
	same(t, what+": Heads", got.heads, want.heads)
	same(t, what+": Dominates", got.over, want.over)
	if !reflect.DeepEqual(got.loops, want.loops) {
		t.Errorf("%s: Loop is %v; wanted %v", what, got.loops, want.loops)
	}
}
