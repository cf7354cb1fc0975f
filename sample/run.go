package sample

import (
	"bytes"

	"doppel/api"
)

// Agree tells whether two runs may be of the same program: they are the same, or one of them is Spent, and what one puts out begins what the other one does.
func Agree(a, b api.Result) bool {
	if a.End != api.Spent && b.End != api.Spent {
		return a.End == b.End && a.Code == b.Code && bytes.Equal(a.Output, b.Output)
	}
	return bytes.HasPrefix(a.Output, b.Output) || bytes.HasPrefix(b.Output, a.Output)
}
