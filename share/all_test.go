package share_test

import (
	"testing"

	"doppel/api"
	"doppel/code"
	"doppel/flow"
	"doppel/live"
	"doppel/sample"
	"doppel/share"
)

// shortened is a function, and what All makes of it: nothing is told if it stays.
type shortened struct{ what, code, into string }

func (s shortened) tells(t *testing.T) {
	t.Helper()
	f, want := both(t, s.what, s.code, s.into)
	if short := share.All(f); !code.Same(short, want) {
		t.Errorf("%s: All is %s; wanted %s", s.what, show(short), show(want))
	}
	if again := share.All(want); !code.Same(again, want) {
		t.Errorf("%s: All of All is %s; wanted %s", s.what, show(again), show(want))
	}
	isShort(t, s.what, f)
}

func TestAll(t *testing.T) {
	for _, s := range []shortened{
		{"one instruction, a Return", "return 0", ""},
		{"one instruction, a Jump", "jump 0", ""},
		{"one instruction, a Branch of what is not known", "branch 1 0 0", ""},
		{"one instruction, a Branch of what is known", "branch 2 0 0", "jump 0"},
		{"nothing changes", "getc 2; neg 3 2; not 4 2; branch 3 4 6; putc 4; jump 7; putc 3; call 5 g 3 4; return 5", ""},
		{"nothing changes: what is not pure stays", "getc 2; load 3 2; call 4 g 3; store 4 3; div 5 3 4; return 4", ""},

		{"Of alone", "copy 2 0; const 0 5; putc 0; putc 2; return 2", ""},
		{"Of, then Sweep", "add 2 0 1; add 3 0 1; sub 4 3 2; return 4", "add 2 0 1; sub 4 2 2; return 4"},
		{"Of, then Sweep: the example", "copy 2 0; add 3 2 2; add 4 0 0; sub 5 4 3; return 5", "add 3 0 0; sub 5 3 3; return 5"},
		{"Of, then Sweep of a Copy to itself", "neg 2 0; neg 2 0; return 1", "return 1"},
		{"a Copy to itself that is read", "copy 0 0; return 0", ""},
		{"Fold alone", "add 2 3 4; return 2", "const 2 0; return 2"},
		{"Fold, then Sweep", "const 2 2; const 3 3; add 4 2 3; return 4", "const 4 5; return 4"},
		{"Fold, then Sweep of what is not reached", "const 2 1; branch 2 2 3; return 0; return 1", "jump 1; return 0"},
		{"Fold of a Copy, so that there are two words", "const 2 5; copy 3 2; store 3 2; return 3", "const 2 5; store 2 2; return 2"},
		{"Of, then Fold of what it made", "const 2 5; neg 3 2; neg 4 2; store 3 4; return 4", "const 3 -5; store 3 3; return 3"},
		{"Sweep alone", "const 2 1; const 2 2; return 2", "const 2 2; return 2"},
		{"Sweep of what is not reached", "return 0; putc 0; return 1", "return 0"},

		{"Sweep, then Of: what is dead sets the source", "getc 2; copy 3 2; const 2 5; putc 3; return 3", "getc 2; putc 2; return 2"},
		{"Sweep, then Of: what is dead sets the holder", "neg 2 0; putc 2; const 2 5; neg 4 0; return 4", "neg 2 0; putc 2; return 2"},
		{"Sweep, then Of: what is not reached leads here", "neg 2 0; putc 2; neg 3 0; return 3; jump 2", "neg 2 0; putc 2; return 2"},
		{"Sweep, then Of: thrice", "getc 2; copy 4 2; copy 5 4; const 4 1; const 2 5; putc 5; return 5", "getc 2; putc 2; return 2"},
		{"Fold, then Of: what is never taken leads here", "branch 2 4 1; neg 3 0; putc 3; putc 1; neg 4 0; return 4", "jump 1; neg 3 0; putc 3; putc 1; return 3"},
		{"Fold, then Sweep, then Of, then Sweep", "const 2 0; branch 2 4 2; neg 3 0; putc 3; neg 4 0; sub 5 4 3; return 5", "jump 1; neg 3 0; putc 3; sub 5 3 3; return 5"},
		{"a loop", "getc 4; add 5 4 0; add 6 4 0; store 5 6; branch 4 0 5; return 0", "getc 4; add 5 4 0; store 5 5; branch 4 0 4; return 0"},
		{"a loop, which is another run than what leads to it", "getc 2; copy 3 2; getc 4; add 5 4 2; add 6 4 3; store 5 6; branch 4 2 7; return 0", ""},
		{"a loop with words that are known", "const 2 1; copy 3 2; getc 4; add 5 4 2; add 6 4 3; store 5 6; branch 4 2 7; return 0", "const 2 1; const 3 1; getc 4; add 5 4 2; add 6 4 3; store 5 6; branch 4 2 7; return 0"},
		{"all that is reached is one loop", "neg 2 0; neg 3 0; store 2 3; jump 0; putc 0; return 0", "neg 2 0; store 2 2; jump 0"},
	} {
		s.tells(t)
	}
}

// rounds is a function after Of, Fold and Sweep, over and over, at most so often; and how often any of them changed anything.
func rounds(f api.Func, most int) (api.Func, int) {
	for many := range most {
		g, _ := share.Of(f)
		g, _ = flow.Fold(g)
		g, _ = live.Sweep(g)
		if code.Same(g, f) {
			return f, many
		}
		f = g
	}
	return f, most
}

// shift has registers that are set to the next one each, the last one of which is then set for nothing: all of them are read, one is free each round. So it takes one round more than there are Copies, but with none of them one, too.
func shift(copies int) api.Func {
	f := sample.Func("f", 0, copies+2, 0)
	add := func(i api.Instr) { f.Code = append(f.Code, i) }
	for register := range copies + 2 {
		add(sample.Getc(register))
	}
	for k := range copies {
		add(sample.Copy(k, k+1))
	}
	add(sample.Const(copies, 5))
	for k := range copies {
		add(sample.Putc(k))
	}
	add(sample.Return(copies + 1))
	return f
}

// TestRounds has functions that change in fewer rounds than 20, in 20, and in more: then All ends with what is left.
func TestRounds(t *testing.T) {
	for copies := range 60 {
		f := shift(copies)
		all, many := rounds(f, 100)
		if !code.RightFunc(f) || many != copies+1 || len(all.Code) != 2*copies+3 {
			t.Fatal("not as it should be:", copies, many, show(f))
		}
		left := max(0, copies-19)
		short := share.All(f)
		if len(short.Code) != len(all.Code)+left {
			t.Errorf("%d rounds: %d Copies are left; wanted %d", many, len(short.Code)-len(all.Code), left)
		}
		if want, _ := rounds(f, 20); !code.Same(short, want) {
			t.Errorf("%d rounds: All is %s; wanted %s", many, show(short), show(want))
		}
		if again := share.All(short); copies <= 39 && !code.Same(again, all) {
			t.Errorf("%d rounds: All of All is %s; wanted %s", many, show(again), show(all))
		}
	}
	want := sample.Func("f", 0, 24, 0, sample.Read("getc 0; getc 1; getc 2; getc 3; getc 4; getc 5; getc 6; getc 7; getc 8; getc 9; getc 10; getc 11; getc 12; getc 13; getc 14; getc 15; getc 16; getc 17; getc 18; getc 19; getc 20; getc 21; getc 22; getc 23; "+
		"copy 0 1; copy 1 2; copy 2 3; putc 0; putc 1; putc 2; putc 4; putc 5; putc 6; putc 7; putc 8; putc 9; putc 10; putc 11; putc 12; putc 13; putc 14; putc 15; putc 16; putc 17; putc 18; putc 19; putc 20; putc 21; putc 22; return 23")...)
	if short := share.All(shift(22)); !code.Same(short, want) {
		t.Errorf("23 rounds: All is %s; wanted %s", show(short), show(want))
	}
}

// TestSweepThenFold has a function of which Fold tells something only once it is shorter.
func TestSweepThenFold(t *testing.T) {
	f := sample.Func("f", 0, 4096, 0, sample.Read("const 1 2; neg 2 1; getc 3; branch 3 4 5; putc 2; not 4 2; not 5 2; store 5 4; add 6 2 1; add 7 2 1; store 6 7; branch 2 12 14; const 8 1; putc 3; putc 4; return 2")...)
	want := sample.Func("f", 0, 4096, 0, sample.Read("const 2 -2; getc 3; branch 3 3 4; putc 2; const 4 1; store 4 4; const 6 0; store 6 6; jump 9; putc 3; putc 4; return 2")...)
	if folded, count := flow.Fold(f); count != 0 || !code.RightFunc(f) || !code.Same(folded, f) {
		t.Fatal("not as it should be:", count, show(f))
	}
	if short := share.All(f); !code.Same(short, want) {
		t.Errorf("All is %s; wanted %s", show(short), show(want))
	}
}

// TestFoldInTime has functions that Fold tells something of once they are shorter by one instruction a round: in the last round, or too late.
func TestFoldInTime(t *testing.T) {
	const room, copies = 1 << 16, 40
	for sweeps := range 23 {
		f := shift(copies)
		// Three registers that are never set: their sum is 0.
		f.Code = append(sample.Read("add 50 51 52; putc 50"), f.Code...)
		f.Regs = room/(len(f.Code)-sweeps) - 1
		if !code.RightFunc(f) || (len(f.Code)-sweeps)*(f.Regs+1) > room || (len(f.Code)-sweeps+1)*(f.Regs+1) <= room {
			t.Fatal("not as it should be:", sweeps, show(f))
		}
		first := sample.Read("add 50 51 52")[0]
		if sweeps < 20 {
			first = sample.Const(50, 0)
		}
		short := share.All(f)
		if want, _ := rounds(f, 20); !code.Same(short, want) || short.Code[0] != first || len(short.Code) != len(f.Code)-20 {
			t.Errorf("in round %d: All is %s; wanted %s", sweeps+1, show(short), show(want))
		}
	}
}
