package flow_test

import (
	"testing"

	"doppel/api"
	"doppel/code"
	"doppel/flow"
	"doppel/sample"
)

func TestStraight(t *testing.T) {
	for _, d := range []drawing{
		{"one instruction", list{sample.Return(0)}, []string{"? 0 0 0"}, nil},
		{"one instruction, of another register", list{sample.Return(3)}, []string{"? 0 0 0"}, nil},
		{"the example", list{sample.Const(0, 2), sample.Const(1, 3), sample.Binary(api.Add, 2, 0, 1), sample.Return(2)},
			[]string{"? 0 0 0", "2 0 0 0", "2 3 0 0", "2 3 5 0"}, into{2: sample.Const(2, 5)}},
		{"words at both ends", list{sample.Const(1, -1<<31), sample.Const(2, 1<<31-1), sample.Copy(3, 1), sample.Copy(1, 2), sample.Return(1)},
			[]string{"? 0 0 0", "? -2147483648 0 0", "? -2147483648 2147483647 0", "? -2147483648 2147483647 -2147483648", "? 2147483647 2147483647 -2147483648"},
			into{2: sample.Const(3, -1<<31), 3: sample.Const(1, 1<<31-1)}},
		{"each kind that sets a register", list{
			sample.Const(1, 6), sample.Unary(api.Not, 2, 1), sample.Binary(api.Sub, 3, 1, 2), sample.Copy(0, 3), sample.Frame(0, 2), sample.Load(1, 3), sample.Call(2, "g", 1), sample.Getc(3), sample.Return(1),
		}, []string{"? 0 0 0", "? 6 0 0", "? 6 -7 0", "? 6 -7 13", "13 6 -7 13", "? 6 -7 13", "? ? -7 13", "? ? ? 13", "? ? ? ?"},
			into{1: sample.Const(2, -7), 2: sample.Const(3, 13), 3: sample.Const(0, 13)}},
		{"each kind that sets none", list{
			sample.Const(1, 6), sample.Store(1, 2), sample.Putc(1), sample.Call(-1, "g", 1, 2), sample.Jump(5), sample.Branch(0, 6, 6), sample.Return(1),
		}, []string{"? 0 0 0", "? 6 0 0", "? 6 0 0", "? 6 0 0", "? 6 0 0", "? 6 0 0", "? 6 0 0"}, nil},
		{"of a parameter", list{sample.Copy(1, 0), sample.Unary(api.Zero, 2, 0), sample.Binary(api.Xor, 3, 0, 0), sample.Binary(api.Mul, 1, 0, 2), sample.Return(3)},
			[]string{"? 0 0 0", "? ? 0 0", "? ? ? 0", "? ? ? ?", "? ? ? ?"}, nil},
		{"of a register that was never set", list{sample.Copy(1, 3), sample.Unary(api.Not, 2, 3), sample.Binary(api.Sub, 3, 2, 1), sample.Return(3)},
			[]string{"? 0 0 0", "? 0 0 0", "? 0 -1 0", "? 0 -1 -1"}, into{0: sample.Const(1, 0), 1: sample.Const(2, -1), 2: sample.Const(3, -1)}},
		{"a parameter that is set", list{sample.Const(0, 4), sample.Copy(1, 0), sample.Return(0)},
			[]string{"? 0 0 0", "4 0 0 0", "4 4 0 0"}, into{1: sample.Const(1, 4)}},
		{"a register to itself", list{sample.Copy(0, 0), sample.Copy(1, 1), sample.Const(1, 9), sample.Copy(1, 1), sample.Return(1)},
			[]string{"? 0 0 0", "? 0 0 0", "? 0 0 0", "? 9 0 0", "? 9 0 0"}, into{1: sample.Const(1, 0), 3: sample.Const(1, 9)}},
		{"what is told already", list{sample.Const(1, 9), sample.Copy(2, 1), sample.Copy(2, 1), sample.Binary(api.And, 2, 1, 2), sample.Unary(api.Low, 2, 2), sample.Return(2)},
			[]string{"? 0 0 0", "? 9 0 0", "? 9 9 0", "? 9 9 0", "? 9 9 0", "? 9 9 0"}, into{1: sample.Const(2, 9), 2: sample.Const(2, 9), 3: sample.Const(2, 9), 4: sample.Const(2, 9)}},
		{"Consts, which stay", list{sample.Const(1, 0), sample.Const(1, 9), sample.Const(1, 9), sample.Const(0, 9), sample.Return(1)},
			[]string{"? 0 0 0", "? 0 0 0", "? 9 0 0", "? 9 0 0", "9 9 0 0"}, nil},
		{"read and set at once", list{sample.Const(1, 3), sample.Unary(api.Neg, 1, 1), sample.Binary(api.Mul, 1, 1, 1), sample.Return(1)},
			[]string{"? 0 0 0", "? 3 0 0", "? -3 0 0", "? 9 0 0"}, into{1: sample.Const(1, -3), 2: sample.Const(1, 9)}},
		{"set twice", list{sample.Const(1, 3), sample.Const(1, 4), sample.Copy(2, 1), sample.Return(2)},
			[]string{"? 0 0 0", "? 3 0 0", "? 4 0 0", "? 4 4 0"}, into{2: sample.Const(2, 4)}},
		{"set, then not known any more", list{sample.Const(1, 3), sample.Copy(2, 1), sample.Getc(1), sample.Copy(3, 1), sample.Return(3)},
			[]string{"? 0 0 0", "? 3 0 0", "? 3 3 0", "? ? 3 0", "? ? 3 ?"}, into{1: sample.Const(2, 3)}},
		{"not known, then set", list{sample.Getc(1), sample.Copy(2, 1), sample.Const(1, 3), sample.Copy(3, 1), sample.Return(3)},
			[]string{"? 0 0 0", "? ? 0 0", "? ? ? 0", "? 3 ? 0", "? 3 ? 3"}, into{3: sample.Const(3, 3)}},
		{"the word that memory holds", list{sample.Const(1, 3), sample.Store(1, 1), sample.Load(2, 1), sample.Copy(3, 2), sample.Return(3)},
			[]string{"? 0 0 0", "? 3 0 0", "? 3 0 0", "? 3 ? 0", "? 3 ? ?"}, nil},
		{"the same word of the frame twice", list{sample.Frame(1, 0), sample.Frame(2, 0), sample.Binary(api.Eq, 3, 1, 2), sample.Return(3)},
			[]string{"? 0 0 0", "? ? 0 0", "? ? ? 0", "? ? ? ?"}, nil},
		{"a row of Copies", list{sample.Const(1, 8), sample.Copy(2, 1), sample.Copy(3, 2), sample.Copy(0, 3), sample.Return(0)},
			[]string{"? 0 0 0", "? 8 0 0", "? 8 8 0", "? 8 8 8", "8 8 8 8"}, into{1: sample.Const(2, 8), 2: sample.Const(3, 8), 3: sample.Const(0, 8)}},
	} {
		d.tells(t)
	}
}

func TestCalls(t *testing.T) {
	for _, d := range []drawing{
		{"no Dst", list{sample.Const(1, 5), sample.Call(-1, "g"), sample.Return(1)}, []string{"? 0 0 0", "? 5 0 0", "? 5 0 0"}, nil},
		{"no Dst, six arguments", list{sample.Const(1, 5), sample.Call(-1, "g", 0, 1, 2, 3, 1, 1), sample.Return(1)}, []string{"? 0 0 0", "? 5 0 0", "? 5 0 0"}, nil},
		{"a Dst", list{sample.Const(1, 5), sample.Call(2, "g"), sample.Return(1)}, []string{"? 0 0 0", "? 5 0 0", "? 5 ? 0"}, nil},
		{"a Dst that is an argument", list{sample.Const(1, 5), sample.Call(1, "g", 1, 2), sample.Return(1)}, []string{"? 0 0 0", "? 5 0 0", "? ? 0 0"}, nil},
		{"of itself", list{sample.Const(1, 5), sample.Call(3, "f", 1), sample.Return(1)}, []string{"? 0 0 0", "? 5 0 0", "? 5 0 ?"}, nil},
	} {
		d.tells(t)
	}
}

// TestParameters has functions with other numbers of parameters and registers.
func TestParameters(t *testing.T) {
	each := func(params, registers int, what string, d drawing) {
		t.Helper()
		d.what = what
		d.tellsOf(t, sample.Func("f", params, registers, 0, d.code...))
	}
	each(0, 1, "none", drawing{code: list{sample.Return(0)}, ahead: []string{"0"}})
	each(0, 1, "none, folded", drawing{code: list{sample.Branch(0, 0, 1), sample.Return(0)}, ahead: []string{"0", "0"}, into: into{0: sample.Jump(1)}})
	each(0, 2, "none, both known", drawing{code: list{sample.Binary(api.Eq, 0, 0, 1), sample.Return(0)}, ahead: []string{"0 0", "1 0"}, into: into{0: sample.Const(0, 1)}})
	each(1, 1, "one alone", drawing{code: list{sample.Copy(0, 0), sample.Return(0)}, ahead: []string{"?", "?"}})
	each(2, 2, "two alone", drawing{code: list{sample.Copy(0, 1), sample.Return(0)}, ahead: []string{"? ?", "? ?"}})
	each(6, 6, "six alone", drawing{code: list{sample.Binary(api.Sub, 0, 5, 5), sample.Return(0)}, ahead: []string{"? ? ? ? ? ?", "? ? ? ? ? ?"}})
	each(6, 8, "six of eight", drawing{code: list{sample.Copy(5, 6), sample.Copy(7, 4), sample.Return(0)}, ahead: []string{"? ? ? ? ? ? 0 0", "? ? ? ? ? 0 0 0", "? ? ? ? ? 0 0 ?"}, into: into{0: sample.Const(5, 0)}})
	each(0, 0, "no registers", drawing{code: list{sample.Jump(0)}, ahead: []string{""}})
	each(0, 0, "no registers, a loop", drawing{code: list{sample.Call(-1, "g"), sample.Jump(3), sample.Jump(1), sample.Jump(0)}, ahead: []string{"", "", "", ""}})
}

func TestBranches(t *testing.T) {
	for _, d := range []drawing{
		{"of 0", list{sample.Branch(1, 1, 2), sample.Return(0), sample.Return(1)}, []string{"? 0 0 0", "", "? 0 0 0"}, into{0: sample.Jump(2)}},
		{"of 1", list{sample.Const(1, 1), sample.Branch(1, 2, 3), sample.Return(0), sample.Return(1)}, []string{"? 0 0 0", "? 1 0 0", "? 1 0 0", ""}, into{1: sample.Jump(2)}},
		{"of another word", list{sample.Const(1, 256), sample.Branch(1, 3, 2), sample.Return(0), sample.Return(1)}, []string{"? 0 0 0", "? 256 0 0", "", "? 256 0 0"}, into{1: sample.Jump(3)}},
		{"of a negative word", list{sample.Const(1, -1), sample.Branch(1, 2, 3), sample.Return(0), sample.Return(1)}, []string{"? 0 0 0", "? -1 0 0", "? -1 0 0", ""}, into{1: sample.Jump(2)}},
		{"of the lowest word", list{sample.Const(1, -1<<31), sample.Branch(1, 2, 3), sample.Return(0), sample.Return(1)}, []string{"? 0 0 0", "? -2147483648 0 0", "? -2147483648 0 0", ""}, into{1: sample.Jump(2)}},
		{"of what is computed", list{sample.Unary(api.Zero, 1, 2), sample.Branch(1, 2, 3), sample.Return(0), sample.Return(1)}, []string{"? 0 0 0", "? 1 0 0", "? 1 0 0", ""}, into{0: sample.Const(1, 1), 1: sample.Jump(2)}},
		{"of what is not known", list{sample.Branch(0, 1, 2), sample.Return(0), sample.Return(1)}, []string{"? 0 0 0", "? 0 0 0", "? 0 0 0"}, nil},
		{"to itself, of what is not known", list{sample.Branch(0, 0, 0)}, []string{"? 0 0 0"}, nil},
		{"to itself, of 0", list{sample.Branch(1, 0, 0)}, []string{"? 0 0 0"}, into{0: sample.Jump(0)}},
		{"to itself or on, of 0", list{sample.Branch(1, 0, 1), sample.Return(0)}, []string{"? 0 0 0", "? 0 0 0"}, into{0: sample.Jump(1)}},
		{"on or to itself, of 0", list{sample.Branch(1, 1, 0), sample.Return(0)}, []string{"? 0 0 0", ""}, into{0: sample.Jump(0)}},
		{"To and Else are the same, of 0", list{sample.Branch(1, 2, 2), sample.Return(0), sample.Return(1)}, []string{"? 0 0 0", "", "? 0 0 0"}, into{0: sample.Jump(2)}},
		{"To and Else are the same, of 7", list{sample.Const(1, 7), sample.Branch(1, 2, 2), sample.Return(1)}, []string{"? 0 0 0", "? 7 0 0", "? 7 0 0"}, into{1: sample.Jump(2)}},
		{"To and Else are the same, of what is not known", list{sample.Branch(0, 2, 2), sample.Return(0), sample.Return(1)}, []string{"? 0 0 0", "", "? 0 0 0"}, nil},
		{"it tells nothing of its A", list{sample.Getc(1), sample.Branch(1, 2, 3), sample.Return(1), sample.Return(1)}, []string{"? 0 0 0", "? ? 0 0", "? ? 0 0", "? ? 0 0"}, nil},
	} {
		d.tells(t)
	}
}

func TestWaysThatJoin(t *testing.T) {
	either := func(one, other api.Instr, more ...api.Instr) list {
		return append(list{sample.Branch(0, 1, 3), one, sample.Jump(4), other}, more...)
	}
	start, end := "? 0 0 0", sample.Return(1)
	for _, d := range []drawing{
		{"the same word", either(sample.Const(1, 5), sample.Const(1, 5), sample.Copy(2, 1), end),
			[]string{start, start, "? 5 0 0", start, "? 5 0 0", "? 5 5 0"}, into{4: sample.Const(2, 5)}},
		{"unlike words", either(sample.Const(1, 5), sample.Const(1, 6), sample.Copy(2, 1), end),
			[]string{start, start, "? 5 0 0", start, "? ? 0 0", "? ? ? 0"}, nil},
		{"the same word, computed", either(sample.Const(1, -1), sample.Unary(api.Not, 1, 2), sample.Copy(2, 1), end),
			[]string{start, start, "? -1 0 0", start, "? -1 0 0", "? -1 -1 0"}, into{3: sample.Const(1, -1), 4: sample.Const(2, -1)}},
		{"a word and what is not known", either(sample.Const(1, 5), sample.Getc(1), sample.Copy(2, 1), end),
			[]string{start, start, "? 5 0 0", start, "? ? 0 0", "? ? ? 0"}, nil},
		{"the word at first", either(sample.Const(1, 0), sample.Putc(1), sample.Copy(2, 1), end),
			[]string{start, start, start, start, start, start}, into{4: sample.Const(2, 0)}},
		{"unlike words in two registers, known together", either(sample.Const(1, 1), sample.Const(2, 1), sample.Binary(api.Add, 3, 1, 2), end),
			[]string{start, start, "? 1 0 0", start, "? ? ? 0", "? ? ? ?"}, nil},
		{"one cannot be taken", append(list{sample.Branch(2, 1, 3), sample.Const(1, 5), sample.Jump(4), sample.Const(1, 6)}, sample.Copy(2, 1), end),
			[]string{start, "", "", start, "? 6 0 0", "? 6 6 0"}, into{0: sample.Jump(3), 4: sample.Const(2, 6)}},
		{"one ends without a result", list{sample.Branch(0, 1, 3), sample.Const(1, 5), sample.Binary(api.Div, 2, 1, 3), sample.Copy(2, 1), end},
			[]string{start, start, "? 5 0 0", start, start}, into{3: sample.Const(2, 0)}},
		{"one returns", list{sample.Branch(0, 1, 3), sample.Const(1, 5), end, sample.Copy(2, 1), end},
			[]string{start, start, "? 5 0 0", start, start}, into{3: sample.Const(2, 0)}},
		{"both lead to a Branch that is known then", either(sample.Const(1, 5), sample.Const(1, 5), sample.Branch(1, 6, 5), sample.Return(2), sample.Return(3)),
			[]string{start, start, "? 5 0 0", start, "? 5 0 0", "", "? 5 0 0"}, into{4: sample.Jump(6)}},
		{"both lead to a Branch that is not, though no word is 0", either(sample.Const(1, 5), sample.Const(1, 6), sample.Branch(1, 6, 5), sample.Return(2), sample.Return(3)),
			[]string{start, start, "? 5 0 0", start, "? ? 0 0", "? ? 0 0", "? ? 0 0"}, nil},
		{"three ways, the same word", list{sample.Branch(0, 1, 3), sample.Const(1, 5), sample.Branch(0, 6, 5), sample.Const(1, 5), sample.Jump(6), sample.Const(2, 0), sample.Copy(3, 1), end},
			[]string{start, start, "? 5 0 0", start, "? 5 0 0", "? 5 0 0", "? 5 0 0", "? 5 0 5"}, into{6: sample.Const(3, 5)}},
		{"three ways, one of them unlike", list{sample.Branch(0, 1, 3), sample.Const(1, 5), sample.Branch(0, 6, 5), sample.Const(1, 5), sample.Jump(6), sample.Const(1, 6), sample.Copy(3, 1), end},
			[]string{start, start, "? 5 0 0", start, "? 5 0 0", "? 5 0 0", "? ? 0 0", "? ? 0 ?"}, nil},
	} {
		d.tells(t)
	}
}

func TestLoops(t *testing.T) {
	start, end := "? 0 0 0", sample.Return(1)
	for _, d := range []drawing{
		{"one instruction, a Jump", list{sample.Jump(0)}, []string{start}, nil},
		{"one instruction in the midst", list{sample.Const(1, 5), sample.Jump(1)}, []string{start, "? 5 0 0"}, nil},
		{"it keeps a word", list{sample.Const(1, 5), sample.Putc(1), sample.Copy(2, 1), sample.Branch(0, 1, 4), sample.Return(2)},
			[]string{start, "? 5 ? 0", "? 5 ? 0", "? 5 5 0", "? 5 5 0"}, into{2: sample.Const(2, 5)}},
		{"it sets the word that it has", list{sample.Const(1, 5), sample.Copy(2, 1), sample.Copy(1, 2), sample.Branch(0, 1, 4), end},
			[]string{start, "? 5 ? 0", "? 5 5 0", "? 5 5 0", "? 5 5 0"}, into{1: sample.Const(2, 5), 2: sample.Const(1, 5)}},
		{"it computes the word that it has", list{sample.Const(1, 1), sample.Binary(api.Mul, 1, 1, 1), sample.Branch(0, 1, 3), end},
			[]string{start, "? 1 0 0", "? 1 0 0", "? 1 0 0"}, into{1: sample.Const(1, 1)}},
		{"it changes a word", list{sample.Const(2, 1), sample.Binary(api.Add, 1, 1, 2), sample.Branch(0, 1, 3), end},
			[]string{start, "? ? 1 0", "? ? 1 0", "? ? 1 0"}, nil},
		{"it changes a word, and goes on while it is not 0", list{sample.Const(1, 9), sample.Const(2, 1), sample.Binary(api.Sub, 1, 1, 2), sample.Branch(1, 2, 4), end},
			[]string{start, "? 9 0 0", "? ? 1 0", "? ? 1 0", "? ? 1 0"}, nil},
		{"it changes a word once", list{sample.Const(1, 5), sample.Copy(2, 1), sample.Const(1, 6), sample.Branch(0, 1, 4), end},
			[]string{start, "? ? ? 0", "? ? ? 0", "? 6 ? 0", "? 6 ? 0"}, nil},
		{"it is left at once", list{sample.Const(1, 5), sample.Branch(2, 2, 4), sample.Const(1, 6), sample.Jump(1), end},
			[]string{start, "? 5 0 0", "", "", "? 5 0 0"}, into{1: sample.Jump(4)}},
		{"it is done once", list{sample.Const(1, 5), sample.Const(2, 0), sample.Copy(3, 1), sample.Branch(2, 0, 4), end},
			[]string{start, "? 5 0 0", "? 5 0 0", "? 5 0 5", "? 5 0 5"}, into{2: sample.Const(3, 5), 3: sample.Jump(4)}},
		{"it is never left", list{sample.Const(1, 5), sample.Branch(1, 1, 2), end},
			[]string{start, "? 5 0 0", ""}, into{1: sample.Jump(1)}},
		{"one register after another", list{sample.Copy(3, 2), sample.Copy(2, 1), sample.Copy(1, 0), sample.Branch(0, 0, 4), end},
			[]string{"? ? ? ?", "? ? ? ?", "? ? ? ?", "? ? ? ?", "? ? ? ?"}, nil},
		{"one word after another", list{sample.Copy(3, 2), sample.Copy(2, 1), sample.Const(1, 0), sample.Branch(0, 0, 4), end},
			[]string{start, start, start, start, start}, into{0: sample.Const(3, 0), 1: sample.Const(2, 0)}},
		{"back to 0, a word that is kept", list{sample.Putc(1), sample.Branch(0, 0, 2), end}, []string{start, start, start}, nil},
		{"back to 0, the word at first", list{sample.Putc(1), sample.Const(1, 0), sample.Jump(0)}, []string{start, start, start}, nil},
		{"back to 0, another word", list{sample.Putc(1), sample.Const(1, 1), sample.Jump(0)}, []string{"? ? 0 0", "? ? 0 0", "? 1 0 0"}, nil},
		{"back to 0, a parameter that is set", list{sample.Putc(0), sample.Const(0, 1), sample.Copy(1, 0), sample.Const(1, 0), sample.Jump(0)},
			[]string{start, start, "1 0 0 0", "1 1 0 0", "1 0 0 0"}, into{2: sample.Const(1, 1)}},
		{"an edge to 0 that cannot be taken", list{sample.Putc(1), sample.Const(1, 1), sample.Branch(2, 0, 3), end},
			[]string{start, start, "? 1 0 0", "? 1 0 0"}, into{2: sample.Jump(3)}},
		{"a loop in a loop keeps a word", list{sample.Const(1, 5), sample.Const(2, 0), sample.Const(3, 1), sample.Binary(api.Add, 2, 2, 3), sample.Branch(0, 3, 5), sample.Branch(0, 1, 6), end},
			[]string{start, "? 5 ? ?", "? 5 0 ?", "? 5 ? 1", "? 5 ? 1", "? 5 ? 1", "? 5 ? 1"}, nil},
		{"the outer one changes a word of the inner one", list{sample.Const(3, 1), sample.Copy(2, 1), sample.Branch(0, 1, 3), sample.Binary(api.Add, 1, 1, 3), sample.Branch(0, 1, 5), end},
			[]string{start, "? ? ? 1", "? ? ? 1", "? ? ? 1", "? ? ? 1", "? ? ? 1"}, nil},
		{"the inner one changes a word of the outer one", list{sample.Const(3, 1), sample.Copy(2, 1), sample.Binary(api.Xor, 1, 1, 3), sample.Branch(0, 2, 4), sample.Branch(0, 1, 5), end},
			[]string{start, "? ? ? 1", "? ? ? 1", "? ? ? 1", "? ? ? 1", "? ? ? 1"}, nil},
		{"what is known of its Branch holds as long as it is so", list{sample.Branch(1, 2, 1), sample.Jump(0), sample.Const(1, 1), sample.Jump(0)},
			[]string{start, start, "", ""}, into{0: sample.Jump(1)}},
	} {
		d.tells(t)
	}
}

// TestNotReached has instructions that nothing leads to, or nothing that can be taken: nothing is known of them, and they stay as they are.
func TestNotReached(t *testing.T) {
	start, end := "? 0 0 0", sample.Return(1)
	would := list{sample.Const(1, 2), sample.Copy(2, 1), sample.Unary(api.Neg, 3, 1), sample.Binary(api.Add, 3, 1, 1), sample.Branch(1, 0, 1), end}
	for _, d := range []drawing{
		{"behind a Return", append(list{end}, would...), []string{start, "", "", "", "", "", ""}, nil},
		{"behind a Jump", append(list{sample.Jump(0)}, would...), []string{start, "", "", "", "", "", ""}, nil},
		{"over which a Jump leads", append(append(list{sample.Jump(7)}, would...), end), []string{start, "", "", "", "", "", "", start}, nil},
		{"behind a Branch that is known", append(append(list{sample.Branch(1, 1, 7)}, would...), end), []string{start, "", "", "", "", "", "", start}, into{0: sample.Jump(7)}},
		{"behind an operation without a result", append(list{sample.Binary(api.Rem, 1, 2, 3)}, would...), []string{start, "", "", "", "", "", ""}, nil},
		{"behind an operation that might have one", list{sample.Binary(api.Rem, 1, 0, 3), sample.Copy(2, 3), end}, []string{start, "? ? 0 0", "? ? 0 0"}, into{1: sample.Const(2, 0)}},
		{"that leads to itself", list{end, sample.Jump(1)}, []string{start, ""}, nil},
		{"a loop that is not", list{end, sample.Const(1, 5), sample.Copy(2, 1), sample.Branch(2, 1, 0)}, []string{start, "", "", ""}, nil},
		{"that leads to what is", list{sample.Jump(3), sample.Const(1, 5), sample.Jump(3), sample.Copy(2, 1), end}, []string{start, "", "", start, start}, into{3: sample.Const(2, 0)}},
		{"that leads to the beginning", list{sample.Copy(2, 1), end, sample.Const(1, 5), sample.Jump(0)}, []string{start, start, "", ""}, into{0: sample.Const(2, 0)}},
		{"that leads on to what is", list{sample.Branch(1, 1, 3), sample.Const(1, 5), sample.Const(2, 5), sample.Binary(api.Or, 3, 1, 2), end}, []string{start, "", "", start, start}, into{0: sample.Jump(3), 3: sample.Const(3, 0)}},
		{"a Branch of which no edge can be taken", list{sample.Jump(3), sample.Const(1, 5), sample.Branch(1, 3, 4), end, end}, []string{start, "", "", start, ""}, nil},
		{"an operation without a result, at which nothing goes on", list{sample.Jump(3), sample.Const(1, 5), sample.Binary(api.DivU, 1, 1, 2), end, end}, []string{start, "", "", start, ""}, nil},
		{"only after a Branch that is itself not", list{sample.Branch(1, 1, 2), sample.Branch(0, 3, 4), end, end, end}, []string{start, "", start, "", ""}, into{0: sample.Jump(2)}},
		{"only after an operation that is itself not", list{sample.Branch(1, 1, 2), sample.Binary(api.Div, 1, 0, 0), end}, []string{start, "", start}, into{0: sample.Jump(2)}},
	} {
		d.tells(t)
	}
}

// TestFoldedFields holds all fields of what takes the place of an instruction.
func TestFoldedFields(t *testing.T) {
	f := function(sample.Const(1, 6), sample.Const(2, 2), sample.Unary(api.Not, 3, 2), sample.Binary(api.Div, 0, 1, 2), sample.Copy(3, 1), sample.Branch(2, 7, 6), sample.Return(3), sample.Branch(3, 6, 6))
	want := list{
		{Kind: api.Const, Dst: 1, N: 6, Else: -1},
		{Kind: api.Const, Dst: 2, N: 2, Else: -1},
		{Kind: api.Const, Dst: 3, N: -3, Else: -1},
		{Kind: api.Const, Dst: 0, N: 3, Else: -1},
		{Kind: api.Const, Dst: 3, N: 6, Else: -1},
		{Kind: api.Jump, Dst: -1, To: 7, Else: -1},
		{Kind: api.Return, Dst: -1, A: 3, Else: -1},
		{Kind: api.Jump, Dst: -1, To: 6, Else: -1},
	}
	folded, count := flow.Fold(f)
	for at, i := range folded.Code {
		if i != want[at] {
			t.Errorf("%d is %v; wanted %v", at, i, want[at])
		}
	}
	if count != 5 || len(folded.Code) != len(want) || !code.RightFunc(folded) {
		t.Error("Fold changes", count, show(folded))
	}
}

// TestNotFolded holds that all other kinds stay, also if all that they read is known.
func TestNotFolded(t *testing.T) {
	stays := list{
		sample.Const(1, 5), sample.Frame(2, 0), sample.Const(2, 5), sample.Load(3, 1), sample.Store(1, 2), sample.Call(3, "g", 1, 2), sample.Call(-1, "g"), sample.Getc(3), sample.Putc(1), sample.Jump(10), sample.Return(1),
	}
	for reads := range stays {
		f := function(stays...)
		if folded, count := flow.Fold(f); count != 0 || !code.Same(folded, f) {
			t.Fatal("Fold changes", count, show(folded))
		}
		// The same by itself, with two registers that are known.
		f = function(sample.Const(1, 5), sample.Const(2, 5), stays[reads], sample.Jump(3))
		if stays[reads].Kind == api.Jump {
			f.Code[2].To = 3
		}
		if folded, count := flow.Fold(f); count != 0 || !code.Same(folded, f) {
			t.Error("Fold changes", count, show(folded))
		}
	}
}

// TestInvalid holds that nothing is told of a function that may not be, and that Fold leaves it as it is.
func TestInvalid(t *testing.T) {
	for what, f := range sample.Wrong() {
		invalid(t, what, f)
	}
	folds := list{sample.Const(1, 6), sample.Unary(api.Not, 2, 1), sample.Copy(3, 1), sample.Branch(1, 0, 4), sample.Return(1)}
	for what, change := range map[string]func(f *api.Func){
		"no name":                    func(f *api.Func) { f.Name = "" },
		"no instructions":            func(f *api.Func) { f.Code = nil },
		"a register too high":        func(f *api.Func) { f.Code[1].A = 4 },
		"a register of -1":           func(f *api.Func) { f.Code[2].Dst = -1 },
		"no word":                    func(f *api.Func) { f.Code[0].N = -1<<31 - 1 },
		"a To behind the end":        func(f *api.Func) { f.Code[3].To = 5 },
		"an Else behind the end":     func(f *api.Func) { f.Code[3].Else = 5 },
		"an end that goes on":        func(f *api.Func) { f.Code = f.Code[:3] },
		"a Copy of two":              func(f *api.Func) { f.Code[2].B = 1 },
		"a Text of a Const":          func(f *api.Func) { f.Code[0].Text = "x" },
		"less registers than params": func(f *api.Func) { f.Params = 5 },
	} {
		f := function(folds...)
		f = code.Clone(f)
		change(&f)
		invalid(t, what, f)
	}
}

func invalid(t *testing.T, what string, f api.Func) {
	t.Helper()
	if code.RightFunc(f) {
		t.Fatal(what + ": valid")
	}
	if ahead := flow.Ahead(f); len(ahead) != 0 {
		t.Error(what+": Ahead is", ahead)
	}
	if folded, count := flow.Fold(f); count != 0 || !code.Same(folded, f) {
		t.Error(what+": Fold is", count, show(folded))
	}
}
