package inline_test

import (
	"strings"
	"testing"

	"doppel/api"
	"doppel/inline"
	"doppel/sample"
)

// TestSmall has functions that are small and functions that are not, each for one reason.
func TestSmall(t *testing.T) {
	for what, c := range map[string]struct {
		f  api.Func
		is bool
	}{
		"one instruction":                   {function("f", 0, 1, "return 0"), true},
		"all parameters":                    {function("f", 6, 6, "return 5"), true},
		"all registers":                     {function("f", 0, 4096, "return 4095"), true},
		"a frame of no words":               {sample.Func("f", 1, 1, 0, sample.Frame(0, 0), sample.Return(0)), true},
		"a frame of one word":               {sample.Func("f", 1, 1, 1, sample.Frame(0, 0), sample.Return(0)), false},
		"a frame that is not read":          {sample.Func("f", 1, 1, 1, sample.Return(0)), false},
		"a frame of all words":              {sample.Func("f", 1, 1, 4096, sample.Return(0)), false},
		"11 instructions":                   {function("f", 1, 1, strings.Repeat("putc 0; ", 10)+"return 0"), true},
		"12 instructions":                   {function("f", 1, 1, strings.Repeat("putc 0; ", 11)+"return 0"), true},
		"13 instructions":                   {function("f", 1, 1, strings.Repeat("putc 0; ", 12)+"return 0"), false},
		"13 instructions, some not reached": {function("f", 1, 1, strings.Repeat("return 0; ", 12)+"return 0"), false},
		"8192 instructions":                 {function("f", 1, 1, strings.Repeat("return 0; ", 8191)+"return 0"), false},
		"12 instructions, all Returns":      {function("f", 1, 1, strings.Repeat("return 0; ", 11)+"return 0"), true},

		"a Call":                            {function("f", 1, 1, "call 0 g; return 0"), false},
		"a Call without Dst":                {function("f", 1, 1, "call -1 g 0; return 0"), false},
		"a Call of itself":                  {function("f", 1, 1, "call 0 f 0; return 0"), false},
		"a Call ahead of the last one":      {function("f", 1, 1, "putc 0; getc 0; call 0 g; return 0"), false},
		"a Call that is not reached":        {function("f", 1, 1, "return 0; call 0 g; return 0"), false},
		"all kinds but a Call":              {common()[7], true},
		"a Jump to the next one":            {function("f", 1, 1, "jump 1; return 0"), true},
		"a Jump to the last one":            {function("f", 1, 1, "jump 3; putc 0; putc 0; return 0"), true},
		"a Jump to itself, the first one":   {function("f", 1, 1, "jump 0; return 0"), false},
		"a Jump to itself, in the midst":    {function("f", 1, 1, "putc 0; jump 1; return 0"), false},
		"a Jump to an earlier one":          {function("f", 1, 1, "putc 0; putc 0; jump 1; return 0"), false},
		"a Jump to the first one":           {function("f", 1, 1, "putc 0; putc 0; jump 0; return 0"), false},
		"a Jump back that is not reached":   {function("f", 1, 1, "putc 0; return 0; jump 1; return 0"), false},
		"a Jump on that is not reached":     {function("f", 1, 1, "putc 0; return 0; jump 3; return 0"), true},
		"no edge, but what is not reached":  {function("f", 1, 1, "return 0; putc 0; return 0"), true},
		"a Branch on":                       {function("f", 1, 1, "branch 0 1 2; putc 0; return 0"), true},
		"a Branch on, the other way":        {function("f", 1, 1, "branch 0 2 1; putc 0; return 0"), true},
		"a Branch on, to one":               {function("f", 1, 1, "branch 0 1 1; return 0"), true},
		"a Branch to itself, by To":         {function("f", 1, 1, "putc 0; branch 0 1 2; return 0"), false},
		"a Branch to itself, by Else":       {function("f", 1, 1, "putc 0; branch 0 2 1; return 0"), false},
		"a Branch to an earlier one: To":    {function("f", 1, 1, "putc 0; branch 0 0 2; return 0"), false},
		"a Branch to an earlier one: Else":  {function("f", 1, 1, "putc 0; branch 0 2 0; return 0"), false},
		"a Branch back by both":             {function("f", 1, 1, "putc 0; branch 0 0 1; return 0"), false},
		"a Branch back that is not reached": {function("f", 1, 1, "return 0; branch 0 2 0; return 0"), false},

		"a Jump, the last one":                       {function("f", 1, 1, "putc 0; jump 0"), false},
		"a Jump, the last one, to itself":            {function("f", 0, 0, "jump 0"), false},
		"a Jump, the last one, which is not reached": {function("f", 1, 1, "return 0; jump 1"), false},
		"a Branch, the last one":                     {function("f", 1, 1, "putc 0; branch 0 0 1"), false},
		"a Branch, the last one, to itself":          {function("f", 1, 1, "branch 0 0 0"), false},
		"main":                                       {function("main", 0, 1, "return 0"), true},
	} {
		if inline.Small(c.f) != c.is || small(c.f) != c.is {
			t.Errorf("%s: Small is %v", what, inline.Small(c.f))
		}
	}
}

// TestSmallOfInvalid has functions that would be small if they might be.
func TestSmallOfInvalid(t *testing.T) {
	for _, wrong := range []map[string]api.Func{sample.Wrong(), sample.WrongSmall()} {
		for what, f := range wrong {
			if inline.Small(f) {
				t.Errorf("%s: Small", what)
			}
		}
	}
	f := function("f", 1, 4, "const 0 -7; jump 2; div 1 2 3; branch 1 5 4; return 3; copy 2 1; return 3")
	if !inline.Small(f) {
		t.Error("not small, though nothing is wrong with it")
	}
	for _, n := range sample.Huge() {
		for what, change := range map[string]func(i *api.Instr){"A": func(i *api.Instr) { i.A = n }, "To": func(i *api.Instr) { i.To = n }, "Else": func(i *api.Instr) { i.Else = n }} {
			g := sample.Roomy(f)
			change(&g.Code[3])
			if inline.Small(g) {
				t.Errorf("a Branch with an %s of %d: Small", what, n)
			}
		}
		g := f
		if g.Frame = n; inline.Small(g) {
			t.Errorf("a Frame of %d: Small", n)
		}
	}
}
