package sample

import (
	"bytes"
	"iter"

	"doppel/api"
)

// Agree tells whether two runs may be of the same program: they are the same, or one of them is Spent, and what one puts out begins what the other one does.
func Agree(a, b api.Result) bool {
	if a.End != api.Spent && b.End != api.Spent {
		return Same(a, b)
	}
	return bytes.HasPrefix(a.Output, b.Output) || bytes.HasPrefix(b.Output, a.Output)
}

// Same tells whether two runs came to the same.
func Same(a, b api.Result) bool {
	return a.End == b.End && a.Code == b.Code && bytes.Equal(a.Output, b.Output)
}

// Plenty is the most fuel of Trials.
const Plenty = 3000

// Trials is some inputs, each with some amounts of fuel.
func Trials() iter.Seq2[string, int] {
	return func(show func(input string, fuel int) bool) {
		for _, input := range []string{"", "a", "\x00\xff\x01", "hello, world"} {
			for _, fuel := range []int{0, 1, 3, 7, 20, 60, 300, Plenty} {
				if !show(input, fuel) {
					return
				}
			}
		}
	}
}

// Changed is a unit with its functions changed, and how much was in all.
func Changed(u api.Unit, change func(f api.Func) (api.Func, int)) (api.Unit, int) {
	all, many := u, 0
	all.Funcs = nil
	for _, f := range u.Funcs {
		g, n := change(f)
		all.Funcs = append(all.Funcs, g)
		many += n
	}
	return all, many
}
