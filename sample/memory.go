package sample

import (
	"slices"

	"doppel/api"
)

// Whole is a list with the room behind it.
func Whole[T any](l []T) []T { return l[:cap(l)] }

// Spoil changes all of a list, and the room behind it.
func Spoil[T any](l []T, mark T) {
	for k := range Whole(l) {
		Whole(l)[k] = mark
	}
}

// Roomy is a function with room behind its instructions, all of which has a mark.
func Roomy(f api.Func) api.Func {
	more := make([]api.Instr, len(f.Code)+5)
	Spoil(more, api.Instr{Text: "mark"})
	copy(more, f.Code)
	f.Code = more[:len(f.Code)]
	return f
}

// Alike tells whether functions are the same, also in the room behind their instructions.
func Alike(f, g api.Func) bool {
	return f.Name == g.Name && f.Params == g.Params && f.Regs == g.Regs && f.Frame == g.Frame && slices.Equal(f.Code, g.Code) && slices.Equal(Whole(f.Code), Whole(g.Code))
}

// Lists is a list of lists with nil for each empty one.
func Lists[T any](l [][]T) [][]T {
	l = slices.Clone(l)
	for k := range l {
		if len(l[k]) == 0 {
			l[k] = nil
		}
	}
	return l
}
