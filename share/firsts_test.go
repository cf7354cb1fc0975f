package share_test

import (
	"strings"
	"testing"

	"doppel/code"
	"doppel/sample"
	"doppel/share"
)

// marks is a list of booleans: "x" where one is true, "." where it is not.
func marks(l []bool) string {
	var out strings.Builder
	for _, is := range l {
		out.WriteString(map[bool]string{true: "x", false: "."}[is])
	}
	return out.String()
}

func TestFirsts(t *testing.T) {
	for _, c := range []struct{ what, code, firsts string }{
		{"one instruction, a Return", "return 0", "x"},
		{"one instruction, a Jump", "jump 0", "x"},
		{"one instruction, a Branch", "branch 0 0 0", "x"},
		{"two instructions", "putc 0; return 0", "x."},
		{"each kind that goes on", "const 0 5; not 1 0; sub 1 2 3; copy 2 1; frame 0 3; load 1 2; store 1 2; call 1 g 2 3; getc 3; putc 2; return 3", "x.........."},
		{"a Call that sets nothing, a Div that may end it all", "call -1 g; div 2 0 1; return 0", "x.."},

		{"a Jump to the next one", "jump 1; return 0", "xx"},
		{"a Jump to the next one, later", "putc 0; jump 2; putc 1; return 0", "x.x."},
		{"a Jump to itself", "putc 0; putc 1; jump 2", "x.x"},
		{"a Jump to 0", "putc 0; putc 1; jump 0", "x.."},
		{"a Jump back", "putc 0; putc 1; putc 1; jump 1", "xx.."},
		{"a Jump on", "jump 3; putc 0; putc 0; putc 1; return 1", "xx.x."},
		{"a Jump to the last one", "putc 0; jump 4; putc 0; putc 1; return 1", "x.x.x"},
		{"a Jump from the last one to the one ahead of it", "putc 0; putc 1; jump 1", "xx."},
		{"two Jumps to one", "putc 0; putc 0; jump 1; jump 1", "xx.x"},

		{"a Branch to the next one alone", "putc 0; branch 0 2 2; putc 0; return 0", "x.x."},
		{"a Branch to the next one, and on", "putc 0; branch 0 2 4; putc 0; putc 1; putc 0; return 0", "x.x.x."},
		{"a Branch on, and to the next one", "putc 0; branch 0 4 2; putc 0; putc 1; putc 0; return 0", "x.x.x."},
		{"a Branch to itself", "putc 0; branch 0 1 1; return 0", "xxx"},
		{"a Branch to 0", "putc 0; putc 0; branch 0 0 0; return 0", "x..x"},
		{"a Branch whose edges are the same", "putc 0; branch 0 4 4; putc 0; putc 0; putc 1; return 0", "x.x.x."},
		{"a Branch back and on", "putc 0; putc 0; branch 0 1 4; putc 0; putc 0; return 0", "xx.xx."},
		{"a Branch at the end", "putc 0; putc 0; putc 0; branch 0 1 2", "xxx."},
		{"a Branch at the end, to itself and 0", "putc 0; putc 0; branch 0 2 0", "x.x"},

		{"behind a Return", "putc 0; return 0; putc 1; return 1", "x.x."},
		{"behind a Return, the last one", "return 0; return 1", "xx"},
		{"behind a Jump that leads elsewhere", "jump 0; putc 1; return 1", "xx."},
		{"behind a Branch that leads elsewhere", "branch 0 0 0; putc 1; return 1", "xx."},
		{"Returns alone", "return 0; return 0; return 1", "xxx"},

		{"named by a Jump that is not reached", "putc 0; putc 1; putc 1; return 0; jump 1", "xx..x"},
		{"named by a Branch that is not reached", "putc 0; putc 1; putc 1; return 0; branch 0 1 2", "xxx.x"},
		{"named by an edge that is never taken", "const 2 0; branch 2 3 2; putc 0; putc 1; return 0", "x.xx."},
		{"not reached, and named by one that is not either", "return 0; putc 0; putc 0; jump 2", "xxx."},
		{"not reached at all", "jump 4; putc 0; getc 2; putc 2; return 0", "xx..x"},
	} {
		f := read(c.code)
		if !code.RightFunc(f) {
			t.Fatal(c.what + ": not valid")
		}
		if got := marks(share.Firsts(f)); got != c.firsts {
			t.Errorf("%s: Firsts is %s; wanted %s", c.what, got, c.firsts)
		}
	}
}

// TestFirstsNamed has a Jump, and a Branch, to each place there is: that of both edges, and 0, and what stands behind it.
func TestFirstsNamed(t *testing.T) {
	const many, last = 9, 5
	for to := range many {
		for otherwise := range many {
			want := make([]bool, many)
			for _, at := range []int{0, last + 1, to, otherwise} {
				want[at] = true
			}
			f := function()
			for len(f.Code) < many-1 {
				f.Code = append(f.Code, sample.Putc(1))
			}
			f.Code = append(f.Code, sample.Return(0))
			f.Code[last] = sample.Branch(0, to, otherwise)
			if got := marks(share.Firsts(f)); got != marks(want) {
				t.Errorf("Branch to %d and %d: Firsts is %s; wanted %s", to, otherwise, got, marks(want))
			}
			if f.Code[last] = sample.Jump(to); to == otherwise && marks(share.Firsts(f)) != marks(want) {
				t.Errorf("Jump to %d: Firsts is %s; wanted %s", to, marks(share.Firsts(f)), marks(want))
			}
		}
	}
}
