package code

import (
	"slices"
	"strconv"
	"strings"

	"doppel/api"
)

// Print is a function's text.
func Print(f api.Func) string {
	var out strings.Builder
	numbers := func(l ...int) {
		for _, n := range l {
			out.WriteString(" " + strconv.Itoa(n))
		}
	}
	// A quoted text ends where its quote does, whatever it holds.
	out.WriteString(strconv.Quote(f.Name))
	numbers(f.Params, f.Regs, f.Frame)
	for _, i := range f.Code {
		out.WriteByte('\n')
		numbers(i.Kind, int(i.Op), i.Dst, i.A, i.B, i.N)
		out.WriteString(" " + strconv.Quote(i.Text))
		numbers(i.Args[:]...)
		numbers(i.To, i.Else)
	}
	out.WriteByte('\n')
	return out.String()
}

// Same tells whether functions are the same.
func Same(a, b api.Func) bool {
	return a.Name == b.Name && a.Params == b.Params && a.Regs == b.Regs && a.Frame == b.Frame && slices.Equal(a.Code, b.Code)
}

// Clone is the same function in memory of its own.
func Clone(f api.Func) api.Func {
	code := make([]api.Instr, len(f.Code))
	copy(code, f.Code)
	f.Code = code
	return f
}
