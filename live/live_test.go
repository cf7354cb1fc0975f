package live_test

import (
	"testing"

	"doppel/api"
	"doppel/code"
	"doppel/live"
	"doppel/sample"
)

// drawing is a function, and what is to be told of it: the registers that are live ahead of each instruction, and behind it, a digit each, and what is dead.
type drawing struct {
	what          string
	code          []api.Instr
	ahead, behind [][]int
	dead          []int
}

func (d drawing) tells(t *testing.T) {
	t.Helper()
	f := function(d.code...)
	if !code.RightFunc(f) {
		t.Fatal(d.what + ": not valid")
	}
	same(t, d.what+": Ahead", sample.Lists(live.Ahead(f)), d.ahead)
	same(t, d.what+": Behind", sample.Lists(live.Behind(f)), d.behind)
	same(t, d.what+": Dead", live.Dead(f), d.dead)
}

type list = []api.Instr

func TestStraight(t *testing.T) {
	for _, d := range []drawing{
		{"one instruction", list{sample.Return(3)}, each("3"), each(""), nil},
		{"one instruction, of a parameter", list{sample.Return(0)}, each("0"), each(""), nil},
		{"one instruction, which reads nothing", list{sample.Jump(0)}, each(""), each(""), nil},
		{"the example", list{sample.Const(0, 1), sample.Const(1, 2), sample.Return(1)}, each("", "", "1"), each("", "1", ""), []int{0}},
		{"each kind that sets a register", list{
			sample.Const(2, 1), sample.Unary(api.Neg, 3, 2), sample.Binary(api.Add, 4, 3, 2), sample.Copy(5, 4), sample.Frame(2, 1), sample.Load(3, 2), sample.Call(4, "g", 3, 5), sample.Getc(1), sample.Binary(api.Xor, 0, 1, 4), sample.Return(0),
		}, each("", "2", "23", "4", "5", "25", "35", "4", "14", "0"), each("2", "23", "4", "5", "25", "35", "4", "14", "0", ""), nil},
		{"each kind that sets none", list{
			sample.Store(4, 5), sample.Putc(3), sample.Call(-1, "g", 2), sample.Jump(4), sample.Branch(1, 5, 5), sample.Return(0),
		}, each("012345", "0123", "012", "01", "01", "0"), each("0123", "012", "01", "01", "0", ""), nil},
		{"read and set at once", list{sample.Unary(api.Not, 2, 2), sample.Binary(api.Add, 2, 2, 2), sample.Copy(2, 2), sample.Return(2)},
			each("2", "2", "2", "2"), each("2", "2", "2", ""), nil},
		{"read and set at once, and read no more", list{sample.Unary(api.Not, 2, 2), sample.Return(0)}, each("02", "0"), each("0", ""), []int{0}},
		{"a Copy to itself", list{sample.Copy(0, 0), sample.Return(0)}, each("0", "0"), each("0", ""), nil},
		{"a Copy to itself, read no more", list{sample.Copy(0, 0), sample.Return(1)}, each("01", "1"), each("1", ""), []int{0}},
		{"read twice at once", list{sample.Binary(api.Mul, 0, 1, 1), sample.Store(1, 1), sample.Call(-1, "g", 1, 0, 1), sample.Return(1)},
			each("1", "01", "01", "1"), each("01", "01", "1", ""), nil},
		{"read twice in a row", list{sample.Putc(2), sample.Putc(2), sample.Return(1)}, each("12", "12", "1"), each("12", "1", ""), nil},
		{"set twice in a row", list{sample.Const(2, 1), sample.Const(2, 2), sample.Return(2)}, each("", "", "2"), each("", "2", ""), []int{0}},
		{"set thrice in a row", list{sample.Const(2, 1), sample.Copy(2, 0), sample.Frame(2, 2), sample.Return(2)}, each("0", "0", "", "2"), each("0", "", "2", ""), []int{0, 1}},
		{"set twice, read between", list{sample.Const(2, 1), sample.Putc(2), sample.Const(2, 2), sample.Return(2)}, each("", "2", "", "2"), each("2", "", "2", ""), nil},
		{"set behind where it is read", list{sample.Putc(2), sample.Const(2, 1), sample.Return(0)}, each("02", "0", "0"), each("0", "0", ""), []int{1}},
		{"parameters that are read", list{sample.Putc(1), sample.Return(0)}, each("01", "0"), each("0", ""), nil},
		{"parameters that are not", list{sample.Const(2, 0), sample.Return(2)}, each("", "2"), each("2", ""), nil},
		{"parameters that are set", list{sample.Const(0, 3), sample.Const(1, 4), sample.Return(1)}, each("", "", "1"), each("", "1", ""), []int{0}},
		{"a register that is never set", list{sample.Putc(5), sample.Return(4)}, each("45", "4"), each("4", ""), nil},
		{"dead for something dead", list{sample.Const(2, 1), sample.Copy(3, 2), sample.Return(0)}, each("0", "02", "0"), each("02", "0", ""), []int{1}},
	} {
		d.tells(t)
	}
}

func TestCalls(t *testing.T) {
	for _, d := range []drawing{
		{"no arguments, no Dst", list{sample.Call(-1, "g"), sample.Return(2)}, each("2", "2"), each("2", ""), nil},
		{"no arguments", list{sample.Call(2, "g"), sample.Return(2)}, each("", "2"), each("2", ""), nil},
		{"one", list{sample.Call(2, "g", 3), sample.Return(2)}, each("3", "2"), each("2", ""), nil},
		{"one, which it sets", list{sample.Call(2, "g", 2), sample.Return(2)}, each("2", "2"), each("2", ""), nil},
		{"two", list{sample.Call(2, "g", 5, 4), sample.Return(2)}, each("45", "2"), each("2", ""), nil},
		{"three, no Dst", list{sample.Call(-1, "g", 5, 1, 3), sample.Return(2)}, each("1235", "2"), each("2", ""), nil},
		{"four", list{sample.Call(1, "g", 4, 3, 4, 3), sample.Return(2)}, each("234", "2"), each("2", ""), nil},
		{"five", list{sample.Call(5, "g", 4, 3, 2, 1, 0), sample.Return(5)}, each("01234", "5"), each("5", ""), nil},
		{"six", list{sample.Call(0, "g", 5, 4, 3, 2, 1, 0), sample.Return(0)}, each("012345", "0"), each("0", ""), nil},
		{"six, no Dst", list{sample.Call(-1, "g", 0, 0, 0, 0, 0, 0), sample.Return(1)}, each("01", "1"), each("1", ""), nil},
		{"a Dst that is not read", list{sample.Call(2, "g"), sample.Return(1)}, each("1", "1"), each("1", ""), nil},
	} {
		d.tells(t)
	}
}

func TestBranches(t *testing.T) {
	for _, d := range []drawing{
		{"To and Else are the same", list{sample.Const(2, 1), sample.Branch(0, 2, 2), sample.Return(2)}, each("0", "02", "2"), each("02", "2", ""), nil},
		{"both are read", list{sample.Branch(0, 1, 2), sample.Return(3), sample.Return(2)}, each("023", "3", "2"), each("23", "", ""), nil},
		{"the same is read", list{sample.Branch(0, 1, 2), sample.Return(3), sample.Return(3)}, each("03", "3", "3"), each("3", "", ""), nil},
		{"read at To", list{sample.Const(2, 1), sample.Branch(0, 2, 3), sample.Return(2), sample.Return(1)}, each("01", "012", "2", "1"), each("012", "12", "", ""), nil},
		{"read at Else", list{sample.Const(2, 1), sample.Branch(0, 2, 3), sample.Return(1), sample.Return(2)}, each("01", "012", "1", "2"), each("012", "12", "", ""), nil},
		{"set at both", list{sample.Const(2, 1), sample.Branch(0, 2, 4), sample.Const(2, 2), sample.Jump(5), sample.Const(2, 3), sample.Return(2)},
			each("0", "0", "", "2", "", "2"), each("0", "", "2", "2", "2", ""), []int{0}},
		{"set at To", list{sample.Const(2, 1), sample.Branch(0, 2, 3), sample.Const(2, 2), sample.Return(2)}, each("0", "02", "", "2"), each("02", "2", "2", ""), nil},
		{"set at Else", list{sample.Const(2, 1), sample.Branch(0, 3, 2), sample.Const(2, 2), sample.Return(2)}, each("0", "02", "", "2"), each("02", "2", "2", ""), nil},
		{"a Jump over what sets", list{sample.Const(2, 1), sample.Jump(3), sample.Const(2, 2), sample.Return(2)}, each("", "2", "", "2"), each("2", "2", "2", ""), nil},
		{"a Branch that reads what is set", list{sample.Const(2, 1), sample.Branch(2, 2, 3), sample.Return(0), sample.Return(1)}, each("01", "012", "0", "1"), each("012", "01", "", ""), nil},
	} {
		d.tells(t)
	}
}

func TestLoops(t *testing.T) {
	for _, d := range []drawing{
		{"of a Branch alone", list{sample.Branch(2, 0, 0)}, each("2"), each("2"), nil},
		{"of a Branch, and on", list{sample.Branch(2, 0, 1), sample.Return(3)}, each("23", "3"), each("23", ""), nil},
		{"of a Branch on, or to itself", list{sample.Const(2, 1), sample.Branch(2, 2, 1), sample.Return(3)}, each("3", "23", "3"), each("23", "23", ""), nil},
		{"a count", list{sample.Const(2, 9), sample.Const(3, 1), sample.Binary(api.Sub, 2, 2, 3), sample.Branch(2, 2, 4), sample.Return(0)},
			each("0", "02", "023", "023", "0"), each("02", "023", "023", "023", ""), nil},
		{"read on the next round alone", list{sample.Putc(2), sample.Getc(2), sample.Branch(3, 0, 3), sample.Return(0)},
			each("023", "03", "023", "0"), each("03", "023", "023", ""), nil},
		{"read on the next round alone, and set again", list{sample.Const(2, 5), sample.Putc(2), sample.Const(2, 6), sample.Jump(1)},
			each("", "2", "", "2"), each("2", "", "2", "2"), nil},
		{"set, and set again on each round", list{sample.Const(2, 5), sample.Const(2, 6), sample.Putc(2), sample.Jump(1)}, each("", "", "2", ""), each("", "2", "", ""), []int{0}},
		{"set for the next round, which sets it", list{sample.Const(2, 6), sample.Putc(2), sample.Const(2, 7), sample.Jump(0)}, each("", "2", "", ""), each("2", "", "", ""), []int{2}},
		{"live for itself alone", list{sample.Unary(api.Neg, 2, 2), sample.Branch(3, 0, 2), sample.Return(0)}, each("023", "023", "0"), each("023", "023", ""), nil},
		{"two that are live for one another", list{sample.Copy(2, 3), sample.Unary(api.Not, 3, 2), sample.Jump(0)}, each("3", "2", "3"), each("2", "3", "3"), nil},
		{"not read in it", list{sample.Const(2, 1), sample.Branch(0, 1, 2), sample.Return(2)}, each("0", "02", "2"), each("02", "02", ""), nil},
		{"without an end", list{sample.Const(2, 1), sample.Jump(1), sample.Return(2)}, each("", "", "2"), each("", "", ""), []int{0}},
		{"in a loop", list{sample.Getc(2), sample.Getc(3), sample.Putc(4), sample.Branch(3, 1, 4), sample.Copy(4, 2), sample.Branch(2, 0, 6), sample.Return(4)},
			each("4", "24", "234", "234", "2", "24", "4"), each("24", "234", "234", "24", "24", "4", ""), nil},
		{"in a loop, read on the next round of the outer one alone", list{sample.Putc(5), sample.Getc(2), sample.Branch(2, 1, 3), sample.Const(5, 65), sample.Branch(1, 0, 5), sample.Return(0)},
			each("015", "01", "012", "01", "015", "0"), each("01", "012", "01", "015", "015", ""), nil},
		{"two ways in", list{sample.Branch(0, 1, 2), sample.Const(2, 1), sample.Putc(2), sample.Branch(1, 1, 4), sample.Return(3)},
			each("0123", "13", "123", "13", "3"), each("123", "123", "13", "13", ""), nil},
	} {
		d.tells(t)
	}
}

func TestNotReached(t *testing.T) {
	for _, d := range []drawing{
		{"they alone read a register", list{sample.Const(2, 1), sample.Return(0), sample.Putc(2), sample.Return(1)}, each("0", "0", "12", "1"), each("0", "", "1", ""), []int{0}},
		{"an edge from them", list{sample.Jump(3), sample.Const(2, 1), sample.Const(3, 1), sample.Putc(2), sample.Return(0)},
			each("02", "0", "02", "02", "0"), each("02", "02", "02", "0", ""), []int{2}},
		{"a Jump from them", list{sample.Const(2, 1), sample.Putc(2), sample.Return(0), sample.Const(2, 2), sample.Jump(1)},
			each("0", "02", "0", "0", "02"), each("02", "0", "", "02", "02"), nil},
		{"a Branch from them, to them and to others", list{sample.Const(2, 1), sample.Putc(2), sample.Return(0), sample.Putc(3), sample.Branch(4, 1, 3)},
			each("0", "02", "0", "0234", "0234"), each("02", "0", "", "0234", "0234"), nil},
		{"a loop of them", list{sample.Return(0), sample.Putc(2), sample.Getc(2), sample.Jump(1)}, each("0", "2", "", "2"), each("", "", "2", "2"), nil},
		{"pure ones", list{sample.Return(0), sample.Const(2, 1), sample.Copy(3, 2), sample.Return(0)}, each("0", "0", "02", "0"), each("", "02", "0", ""), []int{2}},
	} {
		d.tells(t)
	}
}

// TestStay has instructions whose registers are not read, and that are not dead: they do something else.
func TestStay(t *testing.T) {
	for what, i := range map[string]api.Instr{
		"Load": sample.Load(2, 0), "Call": sample.Call(2, "g", 0), "Getc": sample.Getc(2), "Div": sample.Binary(api.Div, 2, 0, 0), "Rem": sample.Binary(api.Rem, 2, 0, 0), "DivU": sample.Binary(api.DivU, 2, 0, 0), "RemU": sample.Binary(api.RemU, 2, 0, 0), "Call without Dst": sample.Call(-1, "g", 0), "Store": sample.Store(0, 0), "Putc": sample.Putc(0),
	} {
		for _, f := range []api.Func{function(i, sample.Return(0)), function(sample.Return(0), i, sample.Return(0)), function(sample.Branch(0, 1, 2), i, sample.Return(0))} {
			same(t, what+": Dead", live.Dead(f), nil)
		}
		if swept, gone := live.Sweep(function(i, sample.Return(0))); gone != 0 || len(swept.Code) != 2 {
			t.Error(what, "is swept")
		}
	}
}

// TestPure has instructions of each kind, and of kinds and with operations that are none.
func TestPure(t *testing.T) {
	pure := []bool{api.Const: true, api.Unary: true, api.Copy: true, api.Frame: true, api.Return: false}
	for k, i := range sample.Kinds() {
		if want := pure[k+1] || i.Kind == api.Binary; live.Pure(i) != want {
			t.Error("Pure of the kind", i.Kind, "is", !want)
		}
		// What else there is in an instruction makes no difference.
		i = api.Instr{Kind: i.Kind, Op: api.Add, Dst: -7, A: 1 << 40, B: -1, N: 1 << 40, To: -9, Else: 7}
		if want := pure[k+1] || i.Kind == api.Binary; live.Pure(i) != want {
			t.Error("Pure of the kind", i.Kind, "is", !want, "with other numbers")
		}
	}
	for _, kind := range append(sample.Huge(), -1, 0, 14, 15, 3+1<<32) {
		if live.Pure(api.Instr{Kind: kind, Op: api.Add}) {
			t.Error("Pure of the kind", kind)
		}
	}
	for op := api.Op(-3); op < 40; op++ {
		pureOp(t, op, api.Add <= op && op <= api.Zero && op != api.Div && op != api.Rem && op != api.DivU && op != api.RemU)
	}
	for _, op := range sample.Huge() {
		pureOp(t, api.Op(op), false)
	}
}

// pureOp holds that Binary with an operation is pure or not, and that Unary with it is, whatever it is.
func pureOp(t *testing.T, op api.Op, is bool) {
	t.Helper()
	if live.Pure(sample.Binary(op, 0, 1, 2)) != is {
		t.Error("Pure of Binary with the operation", op, "is", !is)
	}
	if !live.Pure(sample.Unary(op, 0, 1)) {
		t.Error("Pure of Unary with the operation", op)
	}
}

// TestEachOperation has Binary with each operation, and Unary, whose registers are not read.
func TestEachOperation(t *testing.T) {
	for op := api.Add; op <= api.Zero; op++ {
		i := sample.Unary(op, 2, 0)
		if op <= api.LeU {
			i = sample.Binary(op, 2, 0, 1)
		}
		var dead []int
		if op < api.Div || op > api.RemU {
			dead = []int{0}
		}
		f := function(i, sample.Return(0))
		same(t, "Dead, with the operation "+number(int(op)), live.Dead(f), dead)
		if _, gone := live.Sweep(f); gone != len(dead) {
			t.Error("Sweep, with the operation", op, "takes away", gone)
		}
	}
}

// TestNone has functions that may not be, for each rule: nothing is told of them, and they are swept to themselves.
func TestNone(t *testing.T) {
	for what, f := range sample.Wrong() {
		if code.RightFunc(f) {
			t.Fatal("valid: " + what)
		}
		holds(t, what, f, all{swept: f})
	}
}
