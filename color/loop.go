package color

import (
	"slices"

	"doppel/api"
	"doppel/graph"
)

// loopsAround is how many loops contain each instruction of a valid function. It does not ask graph.Loop, which looks at the whole function each time: there may be thousands of heads.
func loopsAround(f api.Func) []int {
	before, reached, above := graph.Before(f), graph.Reached(f), graph.Above(f)
	loops := make([]int, len(f.Code))
	last := slices.Repeat([]int{none}, len(f.Code)) // the head of the loop that each one was counted in last
	for _, head := range graph.Heads(f) {
		open := []int{head}
		for len(open) > 0 {
			at := open[len(open)-1]
			open = open[:len(open)-1]
			if last[at] == head {
				continue
			}
			last[at] = head
			loops[at]++
			for _, from := range before[at] {
				// What leads to the head may be outside; what leads to another one of the loop can't, if it is reached.
				if reached[from] && (at != head || dominates(above, head, from)) {
					open = append(open, from)
				}
			}
		}
	}
	return loops
}

// dominates tells whether one instruction that is reached dominates another one, if above has what dominates each one next.
func dominates(above []int, a, b int) bool {
	for b != none && b != a {
		b = above[b]
	}
	return a == b
}
