package graph_test

import (
	"math/rand"
	"slices"
	"testing"

	"doppel/api"
	"doppel/code"
	"doppel/graph"
	"doppel/sample"
)

// model tells of a function what the chapter says, word by word: it goes all paths.
type model struct{ next [][]int }

func modelOf(f api.Func) model {
	var m model
	for at, i := range f.Code {
		switch i.Kind {
		case api.Jump:
			m.next = append(m.next, []int{i.To})
		case api.Branch:
			m.next = append(m.next, []int{i.To, i.Else})
		case api.Return:
			m.next = append(m.next, nil)
		default:
			m.next = append(m.next, []int{at + 1})
		}
	}
	return m
}

// paths shows each path from the end of one to an instruction, of those that pass no instruction twice.
func (m model) paths(path []int, to int, show func(path []int)) {
	last := path[len(path)-1]
	if last == to {
		show(path)
		return
	}
	for _, at := range m.next[last] {
		if !slices.Contains(path, at) {
			m.paths(append(slices.Clone(path), at), to, show)
		}
	}
}

func (m model) reached(at int) bool {
	is := false
	m.paths([]int{0}, at, func([]int) { is = true })
	return is
}

func (m model) dominates(a, b int) bool {
	is := m.reached(a) && m.reached(b)
	m.paths([]int{0}, b, func(path []int) { is = is && slices.Contains(path, a) })
	return is
}

// above is the one of those that dominate it which all others of them dominate.
func (m model) above(at int) int {
	for a := range m.next {
		is := a != at && m.dominates(a, at)
		for b := range m.next {
			if b != at && m.dominates(b, at) {
				is = is && m.dominates(b, a)
			}
		}
		if is {
			return a
		}
	}
	return -1
}

// loop is the union of the loops of the back edges to an instruction.
func (m model) loop(head int) []int {
	var loop []int
	for source, l := range m.next {
		if !slices.Contains(l, head) || !m.dominates(head, source) {
			continue
		}
		loop = append(loop, head)
		for at := range m.next {
			is := false
			m.paths([]int{at}, source, func(path []int) { is = is || !slices.Contains(path, head) })
			if is && m.reached(at) {
				loop = append(loop, at)
			}
		}
	}
	slices.Sort(loop)
	return slices.Compact(loop)
}

// leave is the instructions in the order in which a search leaves them.
func (m model) leave(at int, visited map[int]bool) []int {
	visited[at] = true
	var left []int
	for _, to := range m.next[at] {
		if !visited[to] {
			left = append(left, m.leave(to, visited)...)
		}
	}
	return append(left, at)
}

func (m model) tells() all {
	l := all{before: make([][]int, len(m.next)), loops: map[int][]int{}, order: m.leave(0, map[int]bool{})}
	slices.Reverse(l.order)
	for at := range m.next {
		for from, next := range m.next {
			if slices.Contains(next, at) {
				l.before[at] = append(l.before[at], from)
			}
		}
		l.reached, l.above = append(l.reached, m.reached(at)), append(l.above, m.above(at))
		if loop := m.loop(at); len(loop) > 0 {
			l.heads, l.loops[at] = append(l.heads, at), loop
		}
		for b := range m.next {
			if m.dominates(at, b) {
				l.over = append(l.over, [2]int{at, b})
			}
		}
	}
	return l
}

// anyOf makes a function of some instructions from pseudo-random numbers, with more or fewer Branches and ways back.
func anyOf(random *rand.Rand, many int) api.Func {
	branches, far := 1+random.Intn(9), 1+random.Intn(many)
	target := func(at int) int {
		if random.Intn(3) == 0 {
			return random.Intn(many)
		}
		return min(max(0, at+random.Intn(2*far+1)-far), many-1)
	}
	var l []api.Instr
	for at := range many {
		switch n := random.Intn(10); {
		case n < branches:
			l = append(l, branch(target(at), target(at)))
		case n == 9 && random.Intn(2) == 0:
			l = append(l, give())
		case n > 7 || at == many-1:
			l = append(l, sample.Jump(target(at)))
		default:
			l = append(l, straight()[random.Intn(10)])
		}
	}
	return function(l...)
}

// TestSmall holds that all is as the chapter says of it, for pseudo-random functions of up to ten instructions.
func TestSmall(t *testing.T) {
	seen := map[string]int{}
	for seed := range 5000 {
		random := rand.New(rand.NewSource(int64(seed)))
		f := anyOf(random, 1+random.Intn(10))
		want := modelOf(f).tells()
		if holds(t, show(f), f, want); t.Failed() {
			t.Fatal("seed", seed)
		}
		seen["heads"] += min(len(want.heads), 1)
		seen["several heads"] += min(len(want.heads)/2, 1)
		seen["not reached"] += min(len(f.Code)-len(want.order), 1)
		for at, up := range want.above {
			seen["a place where parts meet"] += min(len(want.before[at])/2, 1)
			if up >= 0 && !slices.Contains(want.before[at], up) {
				seen["dominated from afar"]++
			}
		}
		seen["loops with two ways in"] += min(len(twoWaysIn(want)), 1)
	}
	for what, n := range seen {
		if n < 200 {
			t.Error("too few with", what, n)
		}
	}
}

// twoWaysIn is the edges that go back in the order, and yet not to an instruction that dominates.
func twoWaysIn(l all) (edges [][2]int) {
	for at, before := range l.before {
		for _, from := range before {
			a, b := slices.Index(l.order, from), slices.Index(l.order, at)
			if a >= b && b >= 0 && !slices.Contains(l.over, [2]int{at, from}) {
				edges = append(edges, [2]int{from, at})
			}
		}
	}
	return edges
}

// TestEverySmall has every function of three instructions, and every one of four of some sorts.
func TestEverySmall(t *testing.T) {
	for many := 1; many <= 4; many++ {
		sorts := []api.Instr{give()}
		for to := range many {
			sorts = append(sorts, sample.Jump(to))
			for otherwise := range many {
				// Each Branch of three, but only those to one and the next one of four.
				if many < 4 || otherwise == (to+1)%many {
					sorts = append(sorts, branch(to, otherwise))
				}
			}
		}
		places := make([]int, many)
		for {
			var l []api.Instr
			for _, n := range places {
				l = append(l, sorts[n])
			}
			f := function(l...)
			if holds(t, show(f), f, modelOf(f).tells()); t.Failed() {
				return
			}
			k := 0
			for ; k < many && places[k] == len(sorts)-1; k++ {
				places[k] = 0
			}
			if k == many {
				break
			}
			places[k]++
		}
	}
}

// without is what is reached in a function if an instruction is left out.
func without(m model, out int) []bool {
	is := make([]bool, len(m.next))
	open := []int{0}
	for len(open) > 0 {
		at := open[0]
		open = open[1:]
		if at != out && !is[at] {
			is[at] = true
			open = append(open, m.next[at]...)
		}
	}
	return is
}

// TestMiddling has longer functions: what dominates is what cannot be left out. Of two that dominate a third one, one dominates the other one, and a head dominates all of its loop.
func TestMiddling(t *testing.T) {
	seen := 0
	for seed := range 150 {
		random := rand.New(rand.NewSource(int64(9000 + seed)))
		f := anyOf(random, 11+random.Intn(60))
		m := modelOf(f)
		reached := without(m, -1)
		same(t, show(f)+": Reached", graph.Reached(f), reached)
		over := make([][]int, len(m.next)) // what dominates each one
		for a := range m.next {
			others := without(m, a)
			for b := range m.next {
				is := reached[a] && reached[b] && !others[b]
				if graph.Dominates(f, a, b) != is {
					t.Fatalf("%s: Dominates of %d and %d is %v", show(f), a, b, !is)
				}
				if is {
					over[b] = append(over[b], a)
				}
			}
		}
		above := graph.Above(f)
		for b, l := range over {
			chain(t, f, l)
			// It is above the one that is just above it, which has one less above it.
			if up := above[b]; len(l) > 1 && (!slices.Contains(l, up) || len(over[up]) != len(l)-1) || len(l) <= 1 && up != -1 {
				t.Fatalf("%s: Above of %d is %d", show(f), b, up)
			}
		}
		for _, head := range graph.Heads(f) {
			for _, at := range graph.Loop(f, head) {
				seen++
				if !slices.Contains(over[at], head) {
					t.Fatalf("%s: %d is in the loop of %d", show(f), at, head)
				}
			}
		}
	}
	if seen < 1000 {
		t.Error("too few instructions in loops:", seen)
	}
}

// chain holds that of any two of those that dominate an instruction one dominates the other one.
func chain(t *testing.T, f api.Func, l []int) {
	t.Helper()
	for _, a := range l {
		for _, b := range l {
			if !graph.Dominates(f, a, b) && !graph.Dominates(f, b, a) {
				t.Fatalf("%s: %d and %d dominate one instruction", show(f), a, b)
			}
		}
	}
}

// TestUnlikeSearches holds that Order and Before of longer functions are as the chapter says.
func TestUnlikeSearches(t *testing.T) {
	for seed := range 300 {
		random := rand.New(rand.NewSource(int64(seed)))
		f := anyOf(random, 1+random.Intn(300))
		if !code.RightFunc(f) {
			t.Fatal("not valid:", seed)
		}
		m := modelOf(f)
		order := m.leave(0, map[int]bool{})
		slices.Reverse(order)
		same(t, show(f)+": Order", graph.Order(f), order)
		before := make([][]int, len(m.next))
		for from, l := range m.next {
			for at := range m.next {
				if slices.Contains(l, at) {
					before[at] = append(before[at], from)
				}
			}
		}
		same(t, show(f)+": Before", sample.Lists(graph.Before(f)), before)
	}
}
