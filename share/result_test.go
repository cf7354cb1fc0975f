package share_test

import (
	"slices"
	"strings"
	"testing"

	"doppel/api"
	"doppel/code"
	"doppel/sample"
	"doppel/share"
	"doppel/word"
)

// results is an instruction of each kind whose result is held, into "@"; they read 0 and 1 alone.
func results() []string { return []string{"neg @ 0", "add @ 0 1", "lt @ 1 1", "frame @ 2"} }

// TestOperations has each operation twice, with unlike ones between.
func TestOperations(t *testing.T) {
	for op := api.Add; op <= api.Zero; op++ {
		name, operands := word.Name(op), " 0 1"
		if word.One(op) {
			operands = " 0"
		}
		twice := name + " 2" + operands + "; " + name + " 3" + operands + "; return 3"
		if api.Div <= op && op <= api.RemU {
			sharing{"not steady: " + name, twice, ""}.tells(t)
			continue
		}
		sharing{"twice: " + name, twice, name + " 2" + operands + "; copy 3 2; return 2"}.tells(t)
		for other := api.Add; other <= api.Zero; other++ {
			if other != op && word.One(other) == word.One(op) {
				unlike := name + " 2" + operands + "; " + word.Name(other) + " 3" + operands
				sharing{"unlike ones", unlike + "; return 3", ""}.tells(t)
			}
		}
	}
}

func TestTwice(t *testing.T) {
	for _, l := range results() {
		two, three, four := at(l, 2), at(l, 3), at(l, 4)
		for _, s := range []sharing{
			{"twice", two + "; " + three + "; return 3", two + "; copy 3 2; return 2"},
			{"thrice", two + "; " + three + "; " + four + "; store 3 4; return 4", two + "; copy 3 2; copy 4 2; store 2 2; return 2"},
			{"once more, as the second one was set", two + "; " + three + "; const 3 5; " + four + "; return 4", two + "; copy 3 2; const 3 5; copy 4 2; return 2"},
			{"once more, as the first one was set: the second one is a Copy", two + "; " + three + "; const 2 5; " + four + "; return 3", two + "; copy 3 2; const 2 5; " + four + "; return 3"},
			{"twice more, as the first one was set", two + "; " + three + "; const 2 5; " + four + "; " + at(l, 5) + "; return 5", two + "; copy 3 2; const 2 5; " + four + "; copy 5 4; return 4"},
			{"into the same register: it is set, and holds nothing", two + "; " + two + "; return 2", two + "; copy 2 2; return 2"},
			{"thrice into the same register", two + "; " + two + "; " + two + "; return 2", two + "; copy 2 2; " + two + "; return 2"},
			{"four times into the same register", two + "; " + two + "; " + two + "; " + two + "; return 2", two + "; copy 2 2; " + two + "; copy 2 2; return 2"},
			{"into the same register, and another one", two + "; " + two + "; " + three + "; return 3", two + "; copy 2 2; " + three + "; return 3"},
			{"into the same register, which another one equals", two + "; copy 3 2; " + two + "; putc 3; return 2", two + "; copy 3 2; copy 2 2; putc 3; return 2"},
			{"into one, and the other one, in turn", two + "; " + three + "; " + two + "; " + three + "; return 3", two + "; copy 3 2; copy 2 2; " + three + "; return 3"},
			{"into a Copy of the first one", two + "; copy 3 2; " + three + "; return 3", two + "; copy 3 2; copy 3 2; return 2"},
			{"what reads it", two + "; not 3 2; " + four + "; not 5 4; return 5", two + "; not 3 2; copy 4 2; copy 5 3; return 3"},
		} {
			s.what += ": " + l
			s.tells(t)
		}
	}
}

// TestHolderSet has the register that holds a result set by each kind.
func TestHolderSet(t *testing.T) {
	for _, l := range results() {
		for _, setter := range append(setters(), "copy @ 6") {
			two, three, set := at(l, 2), at(l, 3), at(setter, 2)
			if strings.Fields(l)[0] == strings.Fields(setter)[0] {
				continue
			}
			sharing{"set: " + l + ", " + setter, two + "; " + set + "; " + three + "; return 3", ""}.tells(t)
			sharing{"another one is set: " + l + ", " + setter, two + "; " + at(setter, 5) + "; " + three + "; return 3", two + "; " + at(setter, 5) + "; copy 3 2; return 2"}.tells(t)
		}
		for _, other := range others() {
			sharing{"none is set: " + l + ", " + other, at(l, 2) + "; " + other + "; " + at(l, 3) + "; return 3", at(l, 2) + "; " + other + "; copy 3 2; return 2"}.tells(t)
		}
	}
}

// TestOperandSet has each operand set by each kind, and registers that are none.
func TestOperandSet(t *testing.T) {
	for _, c := range []struct {
		result   string
		operands []int
	}{{"not @ 0", []int{0}}, {"mul @ 0 1", []int{0, 1}}, {"mul @ 1 0", []int{0, 1}}, {"sub @ 4 4", []int{4}}, {"frame @ 3", nil}} {
		for _, setter := range setters() {
			for _, register := range []int{0, 1, 4} {
				first, then := at(c.result, 2)+"; "+at(setter, register)+"; ", at(c.result, 3)
				s := sharing{c.result + ", " + at(setter, register), first + then + "; return 3", first + "copy 3 2; return 2"}
				if slices.Contains(c.operands, register) {
					s.into = ""
				}
				s.tells(t)
			}
		}
	}
	for _, s := range []sharing{
		{"a Copy sets the operand", "not 2 0; copy 0 6; not 3 0; return 3", "not 2 0; copy 0 6; not 3 6; return 3"},
		{"a Copy sets the first operand", "sub 2 0 1; copy 0 6; sub 3 0 1; return 3", "sub 2 0 1; copy 0 6; sub 3 6 1; return 3"},
		{"a Copy sets the second operand", "sub 2 0 1; copy 1 6; sub 3 0 1; return 3", "sub 2 0 1; copy 1 6; sub 3 0 6; return 3"},
		{"a Copy sets another one", "sub 2 0 1; copy 4 6; sub 3 0 1; return 3", "sub 2 0 1; copy 4 6; copy 3 2; return 2"},
		{"a Copy of the operand to itself", "not 2 0; copy 0 0; not 3 0; return 3", ""},
	} {
		s.tells(t)
	}
}

// TestOperandsThatEqual has operands that are others' Copies.
func TestOperandsThatEqual(t *testing.T) {
	for _, s := range []sharing{
		{"the example", "copy 1 0; add 2 1 1; add 3 0 0; return 3", "copy 1 0; add 2 0 0; copy 3 2; return 2"},
		{"a Copy of the operand", "neg 2 0; copy 3 0; neg 4 3; return 4", "neg 2 0; copy 3 0; copy 4 2; return 2"},
		{"the operand of a Copy", "copy 3 0; neg 2 3; neg 4 0; return 4", "copy 3 0; neg 2 0; copy 4 2; return 2"},
		{"two Copies", "copy 2 0; copy 3 0; neg 4 2; neg 5 3; return 5", "copy 2 0; copy 3 0; neg 4 0; copy 5 4; return 4"},
		{"a Copy of a Copy", "copy 2 0; copy 3 2; sub 4 2 3; sub 5 0 0; return 5", "copy 2 0; copy 3 0; sub 4 0 0; copy 5 4; return 4"},
		{"crossed", "copy 2 0; copy 3 1; sub 4 2 1; sub 5 0 3; return 5", "copy 2 0; copy 3 1; sub 4 0 1; copy 5 4; return 4"},
		{"Copies of unlike ones", "copy 2 0; copy 3 1; neg 4 2; neg 5 3; return 5", "copy 2 0; copy 3 1; neg 4 0; neg 5 1; return 5"},
		{"the Copy is set, but not what it equalled", "copy 2 0; neg 3 2; const 2 5; neg 4 0; return 4", "copy 2 0; neg 3 0; const 2 5; copy 4 3; return 3"},
		{"the Copy is set, and read", "copy 2 0; neg 3 2; const 2 5; neg 4 2; return 4", "copy 2 0; neg 3 0; const 2 5; neg 4 2; return 4"},
		{"what it equals is set", "copy 2 0; neg 3 2; const 0 5; neg 4 2; return 4", "copy 2 0; neg 3 0; const 0 5; neg 4 2; return 4"},
		{"what it equals is set, and read", "copy 2 0; neg 3 2; const 0 5; neg 4 0; return 4", "copy 2 0; neg 3 0; const 0 5; neg 4 0; return 4"},
		{"what it equals is set, and then set to it", "copy 2 0; neg 3 2; const 0 5; copy 0 2; neg 4 0; return 4", "copy 2 0; neg 3 0; const 0 5; copy 0 2; neg 4 2; return 4"},
		{"both are set to another one", "copy 2 0; neg 3 2; copy 2 1; neg 4 2; neg 5 1; return 5", "copy 2 0; neg 3 0; copy 2 1; neg 4 1; copy 5 4; return 4"},
		{"an operand that equals a holder", "neg 2 0; neg 3 0; not 4 3; not 5 2; return 5", "neg 2 0; copy 3 2; not 4 2; copy 5 4; return 4"},
	} {
		s.tells(t)
	}
}

// TestReadsWhatItSets has results of what is not there any more. What counts is what is read once it is replaced.
func TestReadsWhatItSets(t *testing.T) {
	for _, s := range []sharing{
		{"a Unary", "neg 2 2; neg 3 2; return 3", ""},
		{"a Unary, again and again", "not 2 2; not 2 2; not 2 2; return 2", ""},
		{"the first operand", "add 2 2 0; add 3 2 0; return 3", ""},
		{"the second operand", "add 2 0 2; add 3 0 2; return 3", ""},
		{"both", "xor 2 2 2; xor 3 2 2; return 3", ""},
		{"the register 0", "neg 0 0; neg 2 0; return 2", ""},
		{"one that it reads no more", "copy 2 0; neg 2 2; neg 3 0; return 3", "copy 2 0; neg 2 0; copy 3 2; return 2"},
		{"one that it did not read", "copy 2 0; neg 0 2; neg 3 0; return 3", "copy 2 0; neg 0 0; neg 3 0; return 3"},
		{"one that it did not read: of two", "copy 2 0; add 0 2 1; add 3 0 1; return 3", "copy 2 0; add 0 0 1; add 3 0 1; return 3"},
		{"it is held already", "neg 2 0; neg 0 0; putc 0; neg 3 0; return 3", "neg 2 0; copy 0 2; putc 2; neg 3 2; return 3"},
		{"it is held already, but not afterwards", "neg 2 0; neg 0 0; const 2 5; neg 3 0; return 0", "neg 2 0; copy 0 2; const 2 5; neg 3 0; return 0"},
		{"of what it set, once more", "neg 2 2; neg 3 2; neg 4 2; return 4", "neg 2 2; neg 3 2; copy 4 3; return 3"},
		{"a count", "const 3 1; add 2 2 3; add 4 2 3; add 5 2 3; return 5", "const 3 1; add 2 2 3; add 4 2 3; copy 5 4; return 4"},
	} {
		s.tells(t)
	}
}

func TestNeverShared(t *testing.T) {
	for _, l := range []string{"const @ 5", "copy @ 0", "div @ 0 1", "rem @ 0 1", "divu @ 0 1", "remu @ 0 1", "load @ 0", "call @ g", "call @ g 0 1", "getc @"} {
		sharing{"into two: " + l, at(l, 2) + "; " + at(l, 3) + "; return 1", ""}.tells(t)
		sharing{"into one: " + l, at(l, 2) + "; " + at(l, 2) + "; return 1", ""}.tells(t)
	}
	for _, l := range []string{"store 0 1", "putc 0", "call -1 g", "call -1 g 0 1"} {
		sharing{"twice: " + l, l + "; " + l + "; return 1", ""}.tells(t)
	}
	for _, s := range []sharing{
		{"operands in another order", "add 2 0 1; add 3 1 0; return 3", ""},
		{"operands in another order, of Eq", "eq 2 0 1; eq 3 1 0; return 3", ""},
		{"operands in another order, then in this one", "mul 2 0 1; mul 3 1 0; mul 4 0 1; mul 5 1 0; store 4 5; return 3", "mul 2 0 1; mul 3 1 0; copy 4 2; copy 5 3; store 2 3; return 3"},
		{"turned round", "lt 2 0 1; le 3 1 0; return 3", ""},
		{"one operand alone is the same", "add 2 0 1; add 3 0 4; add 5 4 1; return 5", ""},
		{"unlike Unarys", "neg 2 0; neg 3 1; return 3", ""},
		{"a Neg, and a Sub from 0", "const 4 0; neg 2 0; sub 3 4 0; return 3", ""},
		{"unlike words of the frame", "frame 2 0; frame 3 1; frame 4 2; frame 5 3; return 5", ""},
		{"the same words of the frame, and others", "frame 2 0; frame 3 1; frame 4 0; frame 5 1; store 4 5; return 5", "frame 2 0; frame 3 1; copy 4 2; copy 5 3; store 2 3; return 3"},
		{"a word of the frame, and a word", "const 2 1; frame 3 1; const 4 1; return 4", ""},
		{"an operation of registers, and one of Copies that were set", "copy 2 0; const 2 1; neg 3 0; neg 4 2; return 4", ""},
	} {
		s.tells(t)
	}
}

func TestReplaced(t *testing.T) {
	for _, s := range []sharing{
		{"it equals the holder", "neg 2 0; neg 3 0; putc 3; return 3", "neg 2 0; copy 3 2; putc 2; return 2"},
		{"what is copied from it equals the holder", "neg 2 0; neg 3 0; copy 4 3; const 3 5; putc 4; return 3", "neg 2 0; copy 3 2; copy 4 2; const 3 5; putc 2; return 3"},
		{"the holder is set", "neg 2 0; neg 3 0; const 2 5; putc 3; neg 4 0; return 4", "neg 2 0; copy 3 2; const 2 5; putc 3; neg 4 0; return 4"},
		{"it is set", "neg 2 0; neg 3 0; const 3 5; putc 3; neg 4 0; return 4", "neg 2 0; copy 3 2; const 3 5; putc 3; copy 4 2; return 2"},
		{"the operand is set", "neg 2 0; neg 3 0; const 0 5; putc 3; neg 4 0; return 4", "neg 2 0; copy 3 2; const 0 5; putc 2; neg 4 0; return 4"},
		{"it was a holder of another result", "neg 2 0; not 3 0; neg 3 0; not 4 0; return 4", "neg 2 0; not 3 0; copy 3 2; not 4 0; return 4"},
		{"it was an operand of another result", "neg 2 0; not 4 3; neg 3 0; not 5 3; return 5", "neg 2 0; not 4 3; copy 3 2; not 5 2; return 5"},
		{"it was equalled by another one", "neg 2 0; copy 4 3; neg 3 0; putc 4; putc 3; return 3", "neg 2 0; copy 4 3; copy 3 2; putc 4; putc 2; return 2"},
		{"it equalled another one", "neg 2 0; copy 3 1; neg 3 0; putc 3; return 3", "neg 2 0; copy 3 1; copy 3 2; putc 2; return 2"},
		{"one after another", "add 2 0 1; mul 3 2 0; add 4 0 1; mul 5 4 0; sub 6 5 3; sub 7 3 5; store 6 7; return 7", "add 2 0 1; mul 3 2 0; copy 4 2; copy 5 3; sub 6 3 3; copy 7 6; store 6 6; return 6"},
	} {
		s.tells(t)
	}
}

// TestResultsInRuns holds that what is held is known within a run alone.
func TestResultsInRuns(t *testing.T) {
	for _, l := range results() {
		two, three := at(l, 2), at(l, 3)
		for _, s := range []sharing{
			{"behind a Jump", two + "; jump 2; " + three + "; return 3", ""},
			{"behind a Branch", two + "; branch 1 2 3; " + three + "; return 3", ""},
			{"behind a Return", two + "; return 2; " + three + "; return 3", ""},
			{"where a Jump leads", two + "; " + three + "; jump 1", ""},
			{"where a Jump leads that is not reached", two + "; " + three + "; return 3; jump 1", ""},
			{"where a Branch leads", two + "; putc 0; " + three + "; branch 1 2 0", ""},
			{"ahead of where a Branch leads", two + "; " + three + "; putc 3; branch 1 2 0", two + "; copy 3 2; putc 3; branch 1 2 0"},
			{"behind where a Branch leads", "putc 1; " + two + "; " + three + "; branch 1 1 0", "putc 1; " + two + "; copy 3 2; branch 1 1 0"},
			{"not reached", "return 0; " + two + "; " + three + "; return 3", "return 0; " + two + "; copy 3 2; return 2"},
			{"in each run", two + "; " + three + "; jump 3; " + three + "; " + two + "; return 2", two + "; copy 3 2; jump 3; " + three + "; copy 2 3; return 3"},
		} {
			s.what += ": " + l
			s.tells(t)
		}
	}
}

// TestFields holds all fields of what takes the place of an instruction.
func TestFields(t *testing.T) {
	f := read("copy 7 0; sub 2 7 1; sub 3 0 1; frame 4 3; frame 5 3; not 6 3; not 6 2; store 7 5; load 5 7; call 2 g 1 7 6; call -1 h; putc 7; div 3 1 7; branch 7 14 15; jump 0; return 7")
	want := []api.Instr{
		{Kind: api.Copy, Dst: 7, Else: -1},
		{Kind: api.Binary, Op: api.Sub, Dst: 2, B: 1, Else: -1},
		{Kind: api.Copy, Dst: 3, A: 2, Else: -1},
		{Kind: api.Frame, Dst: 4, N: 3, Else: -1},
		{Kind: api.Copy, Dst: 5, A: 4, Else: -1},
		{Kind: api.Unary, Op: api.Not, Dst: 6, A: 2, Else: -1},
		{Kind: api.Copy, Dst: 6, A: 6, Else: -1},
		{Kind: api.Store, Dst: -1, B: 4, Else: -1},
		{Kind: api.Load, Dst: 5, Else: -1},
		{Kind: api.Call, Dst: 2, N: 3, Text: "g", Args: [6]int{1, 0, 6}, Else: -1},
		{Kind: api.Call, Dst: -1, Text: "h", Else: -1},
		{Kind: api.Putc, Dst: -1, Else: -1},
		{Kind: api.Binary, Op: api.Div, Dst: 3, A: 1, Else: -1},
		{Kind: api.Branch, Dst: -1, To: 14, Else: 15},
		{Kind: api.Jump, Dst: -1, Else: -1},
		{Kind: api.Return, Dst: -1, A: 7, Else: -1},
	}
	shared, count := share.Of(f)
	for at, i := range shared.Code {
		if i != want[at] {
			t.Errorf("%d is %v; wanted %v", at, i, want[at])
		}
	}
	if count != 11 || len(shared.Code) != len(want) || !code.RightFunc(shared) || !sameHeads(f, shared) {
		t.Error("Of changes", count, show(shared))
	}
}

// TestCount has functions of which so many instructions are changed; one that is changed in two ways counts once.
func TestCount(t *testing.T) {
	for _, c := range []struct {
		code string
		many int
	}{
		{"return 0", 0}, {"copy 2 0; return 2", 1}, {"copy 2 0; sub 3 2 2; return 2", 2}, {"neg 2 0; neg 3 0; return 1", 1}, {"copy 4 0; neg 2 0; neg 3 4; return 1", 1},
		{"copy 2 0; copy 3 2; copy 4 3; call 5 g 2 3 4; return 4", 4}, {"neg 2 0; neg 2 0; neg 2 0; neg 2 0; return 0", 2}, {"copy 2 2; return 2", 0},
	} {
		if shared, count := share.Of(read(c.code)); count != c.many {
			t.Errorf("%s: Of changes %d instructions; wanted %d: %s", c.code, count, c.many, show(shared))
		}
	}
}

// TestInvalid holds that nothing is told of a function that may not be, and that it stays as it is.
func TestInvalid(t *testing.T) {
	wrong := sample.Wrong()
	for what, change := range map[string]func(f *api.Func){
		"no name":                    func(f *api.Func) { f.Name = "" },
		"no instructions":            func(f *api.Func) { f.Code = nil },
		"a register too high":        func(f *api.Func) { f.Code[1].A = 8 },
		"a register of -1":           func(f *api.Func) { f.Code[2].Dst = -1 },
		"no word":                    func(f *api.Func) { f.Code[0].N = -1<<31 - 1 },
		"a To behind the end":        func(f *api.Func) { f.Code[5].To = 7 },
		"an Else of -1":              func(f *api.Func) { f.Code[5].Else = -1 },
		"an end that goes on":        func(f *api.Func) { f.Code = f.Code[:5] },
		"a Unary of two":             func(f *api.Func) { f.Code[2].B = 1 },
		"an Arg too many":            func(f *api.Func) { f.Code[4].Args[1] = 2 },
		"an Arg too high":            func(f *api.Func) { f.Code[4].Args[0] = 8 },
		"a Text of a Const":          func(f *api.Func) { f.Code[0].Text = "x" },
		"less registers than params": func(f *api.Func) { f.Params = 9 },
	} {
		f := read("const 2 7; neg 3 2; neg 4 2; copy 5 4; call 6 g 5; branch 5 0 6; return 4")
		if !code.RightFunc(f) {
			t.Fatal("not valid:", show(f))
		}
		change(&f)
		wrong["much to share, and "+what] = f
	}
	for what, f := range wrong {
		if code.RightFunc(f) {
			t.Fatal(what + ": valid")
		}
		holds(t, what, f, all{shared: f, short: f})
	}
}
