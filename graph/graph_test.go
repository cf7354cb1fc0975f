package graph_test

import (
	"slices"
	"testing"

	"doppel/code"
	"doppel/graph"
	"doppel/sample"
)

// drawing is a function, and what is to be told of it.
type drawing struct {
	what, text   string
	before       [][]int
	order, above []int
	loops        map[int][]int
}

// tells holds what is to be told; what is reached, the heads and all pairs that dominate follow from the rest.
func (d drawing) tells(t *testing.T) {
	t.Helper()
	f := drawn(d.text)
	if !code.RightFunc(f) {
		t.Fatal(d.what + ": not valid")
	}
	want := all{before: d.before, order: d.order, above: d.above, loops: map[int][]int{}}
	for at := range f.Code {
		want.reached = append(want.reached, slices.Contains(d.order, at))
		if d.loops[at] != nil {
			want.heads = append(want.heads, at)
			want.loops[at] = d.loops[at]
		}
		for b := range f.Code {
			up := b
			for up >= 0 && up != at {
				up = d.above[up]
			}
			if up == at && slices.Contains(d.order, b) {
				want.over = append(want.over, [2]int{at, b})
			}
		}
	}
	holds(t, d.what, f, want)
}

func TestWithoutLoops(t *testing.T) {
	for _, d := range []drawing{
		{"one instruction", "r", [][]int{{}}, []int{0}, []int{-1}, nil},
		{"straight", ". . r", [][]int{{}, {0}, {1}}, []int{0, 1, 2}, []int{-1, 0, 1}, nil},
		{"each kind", ". . . . . . . . . . r", [][]int{{}, {0}, {1}, {2}, {3}, {4}, {5}, {6}, {7}, {8}, {9}}, []int{0, 1, 2, 3, 4, 5, 6, 7, 8, 9, 10}, []int{-1, 0, 1, 2, 3, 4, 5, 6, 7, 8, 9}, nil},
		{"a Jump to the next one", "j1 r", [][]int{{}, {0}}, []int{0, 1}, []int{-1, 0}, nil},
		{"Jumps about", "j3 j4 r j1 j2", [][]int{{}, {3}, {4}, {0}, {1}}, []int{0, 3, 1, 4, 2}, []int{-1, 3, 4, 0, 1}, nil},
		{"To and Else are the same", "b1,1 r", [][]int{{}, {0}}, []int{0, 1}, []int{-1, 0}, nil},
		{"To and Else are the same, twice", "b2,2 r b1,1", [][]int{{}, {2}, {0}}, []int{0, 2, 1}, []int{-1, 2, 0}, nil},
		{"parts of a Branch", "b1,2 r r", [][]int{{}, {0}, {0}}, []int{0, 2, 1}, []int{-1, 0, 0}, nil},
		{"parts of a Branch, the other way", "b2,1 r r", [][]int{{}, {0}, {0}}, []int{0, 1, 2}, []int{-1, 0, 0}, nil},
		{"parts that meet", "b1,3 . j4 . r", [][]int{{}, {0}, {1}, {0}, {2, 3}}, []int{0, 3, 1, 2, 4}, []int{-1, 0, 1, 0, 0}, nil},
		{"parts that meet, the other way", "b3,1 . j4 . r", [][]int{{}, {0}, {1}, {0}, {2, 3}}, []int{0, 1, 2, 3, 4}, []int{-1, 0, 1, 0, 0}, nil},
		{"one part alone", "b1,2 . r", [][]int{{}, {0}, {0, 1}}, []int{0, 1, 2}, []int{-1, 0, 0}, nil},
		{"one part alone, the other way", "b2,1 . r", [][]int{{}, {0}, {0, 1}}, []int{0, 1, 2}, []int{-1, 0, 0}, nil},
		{"parts within a part", "b1,4 b2,3 j6 j6 b5,6 j6 r", [][]int{{}, {0}, {1}, {1}, {0}, {4}, {2, 3, 4, 5}}, []int{0, 4, 5, 1, 3, 2, 6}, []int{-1, 0, 1, 1, 0, 4, 0}, nil},
		{"parts that meet behind others", "b1,4 b2,3 j5 j5 j6 j6 r", [][]int{{}, {0}, {1}, {1}, {0}, {2, 3}, {4, 5}}, []int{0, 4, 1, 3, 2, 5, 6}, []int{-1, 0, 1, 1, 0, 1, 0}, nil},
		{"parts that cross", "b1,2 b3,4 b4,3 r r", [][]int{{}, {0}, {0}, {1, 2}, {1, 2}}, []int{0, 2, 1, 4, 3}, []int{-1, 0, 0, 0, 0}, nil},
		{"a way round all", "b1,3 b2,3 . r", [][]int{{}, {0}, {1}, {0, 1, 2}}, []int{0, 1, 2, 3}, []int{-1, 0, 1, 0}, nil},
	} {
		d.tells(t)
	}
}

func TestLoops(t *testing.T) {
	for _, d := range []drawing{
		{"the example", "b1,2 j0 r", [][]int{{1}, {0}, {0}}, []int{0, 2, 1}, []int{-1, 0, 0}, map[int][]int{0: {0, 1}}},
		{"a Jump to itself", "j0", [][]int{{0}}, []int{0}, []int{-1}, map[int][]int{0: {0}}},
		{"a Branch to itself", "b0,0", [][]int{{0}}, []int{0}, []int{-1}, map[int][]int{0: {0}}},
		{"a Branch to itself, or on", ". b1,2 r", [][]int{{}, {0, 1}, {1}}, []int{0, 1, 2}, []int{-1, 0, 1}, map[int][]int{1: {1}}},
		{"a Branch on, or to itself", ". b2,1 r", [][]int{{}, {0, 1}, {1}}, []int{0, 1, 2}, []int{-1, 0, 1}, map[int][]int{1: {1}}},
		{"a Jump to itself behind others", ". . j2 r", [][]int{{}, {0}, {1, 2}, {}}, []int{0, 1, 2}, []int{-1, 0, 1, -1}, map[int][]int{2: {2}}},
		{"a loop of all", ". . j0", [][]int{{2}, {0}, {1}}, []int{0, 1, 2}, []int{-1, 0, 1}, map[int][]int{0: {0, 1, 2}}},
		{"a loop, tested at its end", ". . . b1,4 r", [][]int{{}, {0, 3}, {1}, {2}, {3}}, []int{0, 1, 2, 3, 4}, []int{-1, 0, 1, 2, 3}, map[int][]int{1: {1, 2, 3}}},
		{"a loop with two ends", ". b5,2 b1,3 . j1 r", [][]int{{}, {0, 2, 4}, {1}, {2}, {3}, {1}}, []int{0, 1, 2, 3, 4, 5}, []int{-1, 0, 1, 2, 3, 1}, map[int][]int{1: {1, 2, 3, 4}}},
		{"a way out of the midst", ". b2,4 b3,5 j1 r r", [][]int{{}, {0, 3}, {1}, {2}, {1}, {2}}, []int{0, 1, 4, 2, 5, 3}, []int{-1, 0, 1, 2, 1, 2}, map[int][]int{1: {1, 2, 3}}},
		{"a loop in a loop, with one end", ". . b2,3 b1,4 r", [][]int{{}, {0, 3}, {1, 2}, {2}, {3}}, []int{0, 1, 2, 3, 4}, []int{-1, 0, 1, 2, 3}, map[int][]int{1: {1, 2, 3}, 2: {2}}},
		{"a loop in a loop, tested at their heads", "b1,5 b2,4 . j1 j0 r", [][]int{{4}, {0, 3}, {1}, {2}, {1}, {0}}, []int{0, 5, 1, 4, 2, 3}, []int{-1, 0, 1, 2, 1, 0}, map[int][]int{0: {0, 1, 2, 3, 4}, 1: {1, 2, 3}}},
		{"loops in loops in loops", "b1,8 b2,7 b3,6 . j2 r j1 j0 r", [][]int{{7}, {0, 6}, {1, 4}, {2}, {3}, {}, {2}, {1}, {0}}, []int{0, 8, 1, 7, 2, 6, 3, 4}, []int{-1, 0, 1, 2, 3, -1, 2, 1, 0}, map[int][]int{0: {0, 1, 2, 3, 4, 6, 7}, 1: {1, 2, 3, 4, 6}, 2: {2, 3, 4}}},
		{"two loops in a loop", "b1,5 b1,2 . b3,4 j0 r", [][]int{{4}, {0, 1}, {1}, {2, 3}, {3}, {0}}, []int{0, 5, 1, 2, 3, 4}, []int{-1, 0, 1, 2, 3, 0}, map[int][]int{0: {0, 1, 2, 3, 4}, 1: {1}, 3: {3}}},
		{"a loop behind a loop", "b0,1 b1,2 r", [][]int{{0}, {0, 1}, {1}}, []int{0, 1, 2}, []int{-1, 0, 1}, map[int][]int{0: {0}, 1: {1}}},
		{"two loops with one head", "b1,2 j0 b3,4 j0 r", [][]int{{1, 3}, {0}, {0}, {2}, {2}}, []int{0, 2, 4, 3, 1}, []int{-1, 0, 0, 2, 2}, map[int][]int{0: {0, 1, 2, 3}}},
		{"two loops with one head, one within the other", ". . b1,3 b1,4 r", [][]int{{}, {0, 2, 3}, {1}, {2}, {3}}, []int{0, 1, 2, 3, 4}, []int{-1, 0, 1, 2, 3}, map[int][]int{1: {1, 2, 3}}},
		{"one with itself, and another one", "b0,1 b0,2 r", [][]int{{0, 1}, {0}, {1}}, []int{0, 1, 2}, []int{-1, 0, 1}, map[int][]int{0: {0, 1}}},
		{"parts that meet in a loop", ". b2,3 j4 . b1,5 r", [][]int{{}, {0, 4}, {1}, {1}, {2, 3}, {4}}, []int{0, 1, 3, 2, 4, 5}, []int{-1, 0, 1, 1, 1, 4}, map[int][]int{1: {1, 2, 3, 4}}},
	} {
		d.tells(t)
	}
}

// TestTwoWaysIn has loops with two ways in: what they come in at is no head, unless it dominates.
func TestTwoWaysIn(t *testing.T) {
	for _, d := range []drawing{
		{"two ways in", "b1,2 . b1,3 r", [][]int{{}, {0, 2}, {0, 1}, {2}}, []int{0, 1, 2, 3}, []int{-1, 0, 0, 2}, nil},
		{"two ways in, the other way", "b2,1 . b1,3 r", [][]int{{}, {0, 2}, {0, 1}, {2}}, []int{0, 2, 3, 1}, []int{-1, 0, 0, 2}, nil},
		{"two ways in, without an end", "b1,2 j2 j1", [][]int{{}, {0, 2}, {0, 1}}, []int{0, 1, 2}, []int{-1, 0, 0}, nil},
		{"two ways in, in a loop", "b1,2 . b1,3 b0,4 r", [][]int{{3}, {0, 2}, {0, 1}, {2}, {3}}, []int{0, 1, 2, 3, 4}, []int{-1, 0, 0, 2, 3}, map[int][]int{0: {0, 1, 2, 3}}},
		{"two ways in, and a loop in it", "b1,2 j2 b2,1", [][]int{{}, {0, 2}, {0, 1, 2}}, []int{0, 1, 2}, []int{-1, 0, 0}, map[int][]int{2: {2}}},
		{"two ways in, one at a head", ". b2,3 b3,1 j2", [][]int{{}, {0, 2}, {1, 3}, {1, 2}}, []int{0, 1, 2, 3}, []int{-1, 0, 1, 1}, map[int][]int{1: {1, 2, 3}}},
		{"three ways in", "b1,2 b3,4 j5 j4 j5 b3,6 r", [][]int{{}, {0}, {0}, {1, 5}, {1, 3}, {2, 4}, {5}}, []int{0, 2, 1, 3, 4, 5, 6}, []int{-1, 0, 0, 0, 0, 0, 5}, nil},
	} {
		d.tells(t)
	}
}

// TestNotReached has edges among instructions that are not reached, and from these to those that are.
func TestNotReached(t *testing.T) {
	for _, d := range []drawing{
		{"one left out", "j2 . r", [][]int{{}, {}, {0, 1}}, []int{0, 2}, []int{-1, -1, 0}, nil},
		{"all but the first one", "j0 r r", [][]int{{0}, {}, {}}, []int{0}, []int{-1, -1, -1}, map[int][]int{0: {0}}},
		{"behind a Return", "r . . r", [][]int{{}, {}, {1}, {2}}, []int{0}, []int{-1, -1, -1, -1}, nil},
		{"a loop", "r . j1", [][]int{{}, {2}, {1}}, []int{0}, []int{-1, -1, -1}, nil},
		{"a loop of one", "r j1", [][]int{{}, {1}}, []int{0}, []int{-1, -1}, nil},
		{"a loop with a way to what is reached", "j3 . b1,3 r", [][]int{{}, {2}, {1}, {0, 2}}, []int{0, 3}, []int{-1, -1, -1, 0}, nil},
		{"a way back to 0", "r j0", [][]int{{1}, {}}, []int{0}, []int{-1, -1}, nil},
		{"a way back", ". r j1", [][]int{{}, {0, 2}, {}}, []int{0, 1}, []int{-1, 0, -1}, nil},
		{"a way into a loop", "j2 j3 . b2,4 r", [][]int{{}, {}, {0, 3}, {1, 2}, {3}}, []int{0, 2, 3, 4}, []int{-1, -1, 0, 2, 3}, map[int][]int{2: {2, 3}}},
		{"a way to a head", "j2 j2 b2,3 r", [][]int{{}, {}, {0, 1, 2}, {2}}, []int{0, 2, 3}, []int{-1, -1, 0, 2}, map[int][]int{2: {2}}},
		{"ways into a loop", "j3 b1,4 b5,3 . . b3,6 r", [][]int{{}, {1}, {}, {0, 2, 5}, {1, 3}, {2, 4}, {5}}, []int{0, 3, 4, 5, 6}, []int{-1, -1, -1, 0, 3, 4, 5}, map[int][]int{3: {3, 4, 5}}},
		{"a way round", "j3 j2 j4 . r", [][]int{{}, {}, {1}, {0}, {2, 3}}, []int{0, 3, 4}, []int{-1, -1, -1, 0, 3}, nil},
	} {
		d.tells(t)
	}
}

// TestNone has functions that may not be, for each rule: nothing is told of them.
func TestNone(t *testing.T) {
	for what, f := range sample.Wrong() {
		if code.RightFunc(f) {
			t.Fatal("valid: " + what)
		}
		holds(t, what, f, all{loops: map[int][]int{}})
	}
}

// TestLoopOfOthers has a Loop of indexes that are no heads; told asks for those that are no instructions, too.
func TestLoopOfOthers(t *testing.T) {
	f := drawn("b1,2 j0 r j4 j3")
	for _, at := range append(sample.Huge(), -1, 1, 2, 3, 4, 5) {
		same(t, "Loop of "+number(at), graph.Loop(f, at), nil)
		// 3 and 4 go round, but nothing leads to them.
		if graph.Dominates(f, at, at) != (at == 1 || at == 2) {
			t.Error("Dominates of itself:", at)
		}
	}
	same(t, "Loop of 0", graph.Loop(f, 0), []int{0, 1})
}
