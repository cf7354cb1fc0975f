package graph

import "slices"

// walk is what a depth-first search from instruction 0 meets.
type walk struct {
	entered []int       // the instructions, as it enters them
	parent  []int       // for each of these, the place in entered of the one that it comes from
	left    []int       // the instructions, as it leaves them
	place   map[int]int // the place in entered of each instruction that is reached
}

// enter goes on to an instruction.
func (w *walk) enter(at, parent int) {
	w.place[at] = len(w.entered)
	w.entered = append(w.entered, at)
	w.parent = append(w.parent, parent)
}

// depthFirst tries the edges of each instruction in their order.
func depthFirst(next [][]int) walk {
	w := walk{place: map[int]int{}}
	if len(next) == 0 {
		return w
	}
	tried := make([]int, len(next))
	path := []int{0}
	w.enter(0, none)
search:
	for len(path) > 0 {
		at := path[len(path)-1]
		for tried[at] < len(next[at]) {
			to := next[at][tried[at]]
			tried[at]++
			if _, seen := w.place[to]; !seen {
				w.enter(to, w.place[at])
				path = append(path, to)
				continue search
			}
		}
		w.left = append(w.left, at)
		path = path[:len(path)-1]
	}
	return w
}

// dominators is, for each place of a walk, that of its immediate dominator. It goes by semidominators, the lowest places from which a path leads to a place through higher ones only: sets of dominators would take a time that grows with the square of the length, or worse.
func (w walk) dominators(before [][]int) []int {
	semi := w.semidominators(before)
	above := make([]int, len(semi))
	for n := range above {
		d := w.parent[n]
		for d > semi[n] {
			d = above[d]
		}
		above[n] = d
	}
	return above
}

func (w walk) semidominators(before [][]int) []int {
	semi := make([]int, len(w.entered))
	// Of the places that are done, up is one above on the way to 0, and low the lowest semidominator from there on, up excluded.
	low, up := make([]int, len(semi)), slices.Repeat([]int{none}, len(semi))
	for n := range low {
		low[n] = n
	}
	for n := len(semi) - 1; n >= 0; n-- {
		semi[n] = n
		for _, at := range before[w.entered[n]] {
			if from, is := w.place[at]; is {
				shorten(from, low, up)
				semi[n] = min(semi[n], low[from])
			}
		}
		low[n], up[n] = semi[n], w.parent[n]
	}
	return semi
}

// shorten lets up of a place lead as far as places are done, and low go with it.
func shorten(n int, low, up []int) {
	if up[n] == none || up[up[n]] == none {
		return
	}
	shorten(up[n], low, up)
	low[n] = min(low[n], low[up[n]])
	up[n] = up[up[n]]
}

// dominates tells whether a place is b, or above it. All that is above a place has a lower number.
func dominates(above []int, a, b int) bool {
	for b > a {
		b = above[b]
	}
	return a == b
}
