package live_test

import (
	"testing"

	"doppel/api"
	"doppel/code"
	"doppel/live"
	"doppel/sample"
)

// sweeping is a function, and what is to remain of it.
type sweeping struct {
	what       string
	code, rest list
}

func (s sweeping) tells(t *testing.T) {
	t.Helper()
	f, want := function(s.code...), function(s.rest...)
	if !code.RightFunc(f) || !code.RightFunc(want) {
		t.Fatal(s.what + ": not valid")
	}
	swept, gone := live.Sweep(f)
	if !code.Same(swept, want) || gone != len(s.code)-len(s.rest) {
		t.Errorf("%s: Sweep is %d, %s; wanted %s", s.what, gone, show(swept), show(want))
	}
	isSwept(t, s.what, f)
}

// dead is an instruction that is; nothing reads the register 5 in these functions.
func dead() api.Instr { return sample.Const(5, 77) }

func TestSweepDead(t *testing.T) {
	for _, s := range []sweeping{
		{"the example", list{sample.Const(0, 1), sample.Const(1, 2), sample.Return(1)}, list{sample.Const(1, 2), sample.Return(1)}},
		{"at the beginning", list{dead(), sample.Putc(0), sample.Return(1)}, list{sample.Putc(0), sample.Return(1)}},
		{"in the middle", list{sample.Putc(0), dead(), sample.Return(1)}, list{sample.Putc(0), sample.Return(1)}},
		{"in a row", list{sample.Putc(0), dead(), sample.Copy(5, 5), sample.Unary(api.Neg, 5, 0), sample.Binary(api.Add, 5, 0, 1), sample.Frame(5, 1), sample.Putc(1), sample.Return(1)}, list{sample.Putc(0), sample.Putc(1), sample.Return(1)}},
		{"all but the end", list{dead(), dead(), dead(), sample.Return(1)}, list{sample.Return(1)}},
		{"ahead of a Jump at the end", list{sample.Putc(0), dead(), sample.Jump(0)}, list{sample.Putc(0), sample.Jump(0)}},
		{"ahead of a Branch at the end", list{sample.Putc(0), dead(), sample.Branch(0, 0, 0)}, list{sample.Putc(0), sample.Branch(0, 0, 0)}},
		{"here and there", list{dead(), sample.Putc(0), dead(), dead(), sample.Putc(1), dead(), sample.Return(1)}, list{sample.Putc(0), sample.Putc(1), sample.Return(1)}},
		{"once others went", list{sample.Const(2, 1), sample.Copy(3, 2), sample.Unary(api.Not, 4, 3), sample.Binary(api.Add, 5, 4, 2), sample.Return(0)}, list{sample.Return(0)}},
		{"once others went, but for one", list{sample.Const(2, 1), sample.Copy(3, 2), sample.Unary(api.Not, 4, 3), sample.Return(2)}, list{sample.Const(2, 1), sample.Return(2)}},
		{"once all that read it went", list{sample.Const(2, 1), sample.Copy(3, 2), sample.Copy(4, 2), sample.Binary(api.Mul, 5, 2, 2), sample.Return(0)}, list{sample.Return(0)}},
		{"once one of two parts went", list{sample.Const(2, 1), sample.Branch(0, 2, 4), sample.Copy(3, 2), sample.Return(0), sample.Return(1)}, list{sample.Branch(0, 1, 2), sample.Return(0), sample.Return(1)}},
		{"set again behind something dead that read it", list{sample.Const(2, 1), sample.Copy(3, 2), sample.Const(2, 2), sample.Return(2)}, list{sample.Const(2, 2), sample.Return(2)}},
		{"what is not pure stays", list{sample.Const(2, 1), sample.Load(3, 2), sample.Getc(4), sample.Call(5, "g", 2), sample.Binary(api.Rem, 3, 2, 2), sample.Return(0)}, list{sample.Const(2, 1), sample.Load(3, 2), sample.Getc(4), sample.Call(5, "g", 2), sample.Binary(api.Rem, 3, 2, 2), sample.Return(0)}},
		{"a Jump to what is next then", list{sample.Jump(2), dead(), dead(), sample.Return(0)}, list{sample.Jump(1), sample.Return(0)}},
	} {
		s.tells(t)
	}
}

// TestSweepEdges has edges to what is dead: they lead to the next one that remains.
func TestSweepEdges(t *testing.T) {
	for _, s := range []sweeping{
		{"a Jump", list{sample.Jump(2), sample.Putc(1), dead(), sample.Putc(0), sample.Branch(0, 1, 5), sample.Return(0)}, list{sample.Jump(2), sample.Putc(1), sample.Putc(0), sample.Branch(0, 1, 4), sample.Return(0)}},
		{"a Jump to the first of a row", list{sample.Jump(1), dead(), dead(), dead(), sample.Return(0)}, list{sample.Jump(1), sample.Return(0)}},
		{"a Jump to the midst of a row", list{sample.Putc(0), dead(), dead(), dead(), sample.Putc(1), sample.Jump(2)}, list{sample.Putc(0), sample.Putc(1), sample.Jump(1)}},
		{"a Jump back to 0", list{dead(), sample.Putc(0), sample.Jump(0)}, list{sample.Putc(0), sample.Jump(0)}},
		{"a Jump to itself behind it", list{dead(), sample.Jump(0)}, list{sample.Jump(0)}},
		{"a To", list{sample.Branch(0, 2, 1), sample.Return(0), dead(), sample.Return(1)}, list{sample.Branch(0, 2, 1), sample.Return(0), sample.Return(1)}},
		{"an Else", list{sample.Branch(0, 1, 2), sample.Return(0), dead(), sample.Return(1)}, list{sample.Branch(0, 1, 2), sample.Return(0), sample.Return(1)}},
		{"a To and an Else", list{sample.Branch(0, 1, 2), dead(), dead(), sample.Return(1)}, list{sample.Branch(0, 1, 1), sample.Return(1)}},
		{"a To and an Else that are the same", list{sample.Branch(0, 2, 2), sample.Putc(1), dead(), sample.Branch(0, 1, 4), sample.Return(1)}, list{sample.Branch(0, 2, 2), sample.Putc(1), sample.Branch(0, 1, 3), sample.Return(1)}},
		{"a To and an Else, back", list{sample.Putc(0), dead(), sample.Putc(1), dead(), sample.Branch(0, 1, 3)}, list{sample.Putc(0), sample.Putc(1), sample.Branch(0, 1, 2)}},
		{"behind the target", list{sample.Jump(1), sample.Putc(0), dead(), sample.Return(0)}, list{sample.Jump(1), sample.Putc(0), sample.Return(0)}},
		{"ahead of the target", list{sample.Branch(0, 2, 3), sample.Return(1), sample.Putc(0), sample.Putc(1), dead(), sample.Branch(1, 5, 6), sample.Return(0)}, list{sample.Branch(0, 1, 2), sample.Putc(0), sample.Putc(1), sample.Branch(1, 3, 4), sample.Return(0)}},
	} {
		s.tells(t)
	}
}

func TestSweepLoops(t *testing.T) {
	itself := list{sample.Unary(api.Neg, 2, 2), sample.Branch(3, 0, 2), sample.Return(0)}
	another := list{sample.Copy(2, 3), sample.Unary(api.Not, 3, 2), sample.Jump(0)}
	count := list{sample.Const(2, 9), sample.Const(3, 1), sample.Binary(api.Sub, 2, 2, 3), sample.Branch(2, 2, 4), sample.Return(0)}
	for _, s := range []sweeping{
		{"live for itself alone", itself, itself},
		{"live for one another alone", another, another},
		{"a count", count, count},
		{"live for itself alone, set ahead", append(list{sample.Const(2, 5), dead()}, sample.Unary(api.Neg, 2, 2), sample.Branch(3, 2, 4), sample.Return(0)), list{sample.Const(2, 5), sample.Unary(api.Neg, 2, 2), sample.Branch(3, 1, 3), sample.Return(0)}},
		{"a value for it", list{sample.Const(4, 5), sample.Binary(api.Add, 2, 2, 4), sample.Copy(3, 2), sample.Jump(1)}, list{sample.Const(4, 5), sample.Binary(api.Add, 2, 2, 4), sample.Jump(1)}},
		{"dead at its end", list{sample.Putc(0), sample.Branch(0, 2, 3), dead(), sample.Branch(1, 0, 4), sample.Return(0)}, list{sample.Putc(0), sample.Branch(0, 2, 2), sample.Branch(1, 0, 3), sample.Return(0)}},
		{"of nothing else", list{dead(), dead(), sample.Jump(0)}, list{sample.Jump(0)}},
		{"one round after another", list{sample.Copy(2, 3), sample.Copy(3, 4), sample.Copy(4, 0), sample.Branch(1, 0, 4), sample.Return(0)}, list{sample.Branch(1, 0, 1), sample.Return(0)}},
	} {
		s.tells(t)
	}
}

func TestSweepNotReached(t *testing.T) {
	for _, s := range []sweeping{
		{"at the end", list{sample.Return(0), sample.Putc(1), sample.Return(1)}, list{sample.Return(0)}},
		{"between", list{sample.Jump(3), sample.Putc(0), sample.Return(1), sample.Return(0)}, list{sample.Jump(1), sample.Return(0)}},
		{"between, and at the end", list{sample.Branch(0, 3, 5), sample.Getc(2), sample.Jump(0), sample.Putc(0), sample.Return(1), sample.Return(0), sample.Jump(6), sample.Return(1)}, list{sample.Branch(0, 1, 3), sample.Putc(0), sample.Return(1), sample.Return(0)}},
		{"all but a Jump", list{sample.Jump(0), sample.Return(0)}, list{sample.Jump(0)}},
		{"a loop", list{sample.Return(0), sample.Putc(0), sample.Branch(0, 1, 2), sample.Jump(1)}, list{sample.Return(0)}},
		{"with an edge to what is reached", list{sample.Jump(2), sample.Putc(0), sample.Putc(1), sample.Return(1), sample.Jump(2)}, list{sample.Jump(1), sample.Putc(1), sample.Return(1)}},
		{"what alone read a register", list{sample.Const(2, 1), sample.Return(0), sample.Putc(2), sample.Return(2)}, list{sample.Return(0)}},
		{"dead ones", list{sample.Return(0), dead(), sample.Return(0)}, list{sample.Return(0)}},
		{"pure ones whose registers are live", list{sample.Jump(2), sample.Const(0, 3), sample.Putc(0), sample.Return(0), sample.Const(0, 3), sample.Jump(2)}, list{sample.Jump(1), sample.Putc(0), sample.Return(0)}},
		{"behind what is dead", list{sample.Jump(3), sample.Putc(0), sample.Return(1), dead(), sample.Jump(6), sample.Putc(1), dead(), sample.Return(0)}, list{sample.Jump(1), sample.Jump(2), sample.Return(0)}},
		{"the last ones, which Jumps lead over", list{sample.Jump(4), sample.Return(0), sample.Return(1), sample.Return(2), sample.Jump(1), sample.Return(3)}, list{sample.Jump(2), sample.Return(0), sample.Jump(1)}},
		{"between To and Else that are dead", list{sample.Branch(0, 1, 4), dead(), sample.Return(0), sample.Putc(0), dead(), sample.Return(1)}, list{sample.Branch(0, 1, 2), sample.Return(0), sample.Return(1)}},
	} {
		s.tells(t)
	}
}

// TestSweepNothing has functions that are swept to themselves.
func TestSweepNothing(t *testing.T) {
	for _, l := range []list{
		{sample.Return(3)},
		{sample.Jump(0)},
		{sample.Branch(0, 0, 0)},
		{sample.Branch(0, 1, 1), sample.Jump(2), sample.Return(0)},
		{sample.Const(2, 1), sample.Return(2)},
		{sample.Putc(0), sample.Getc(5), sample.Load(5, 0), sample.Call(5, "g"), sample.Return(1)},
		{sample.Copy(0, 0), sample.Return(0)},
	} {
		sweeping{"nothing to be taken away", l, l}.tells(t)
	}
	// What is told of a function besides its instructions stays, whether it is wanted or not.
	f := sample.Func("another name", 6, 4096, 4096, dead(), sample.Return(0))
	g := f
	g.Code = f.Code[1:]
	if swept, gone := live.Sweep(f); gone != 1 || !code.Same(swept, g) {
		t.Error("Sweep changes more than the instructions:", gone, show(swept))
	}
}
