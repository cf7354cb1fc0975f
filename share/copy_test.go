package share_test

import "testing"

func TestNothingToShare(t *testing.T) {
	for _, l := range []string{
		"return 0", "jump 0", "branch 1 0 0", "copy 2 0; return 0", "copy 1 1; return 1", "const 2 1; putc 2; return 2", "copy 2 0; jump 0", "neg 2 0; not 3 0; return 3",
		"const 0 5; not 1 0; sub 1 2 3; copy 2 1; frame 0 3; load 2 3; store 3 4; call 1 g 3 4; getc 3; putc 4; jump 12; branch 4 11 12; return 3",
	} {
		sharing{"nothing to share: " + l, l, ""}.tells(t)
	}
}

// TestReads has a register that equals another one, read by each kind.
func TestReads(t *testing.T) {
	for _, c := range []struct{ reads, instead string }{
		{"neg 3 2", "neg 3 0"}, {"zero 2 2", "zero 2 0"}, {"not 0 2", "not 0 0"},
		{"sub 3 2 1", "sub 3 0 1"}, {"sub 3 1 2", "sub 3 1 0"}, {"sub 3 2 2", "sub 3 0 0"}, {"sub 2 2 2", "sub 2 0 0"}, {"add 3 0 2", "add 3 0 0"},
		{"div 3 2 1", "div 3 0 1"}, {"remu 2 1 2", "remu 2 1 0"}, {"divu 3 2 2", "divu 3 0 0"},
		{"copy 3 2", "copy 3 0"}, {"load 3 2", "load 3 0"}, {"load 2 2", "load 2 0"},
		{"store 2 1", "store 0 1"}, {"store 1 2", "store 1 0"}, {"store 2 2", "store 0 0"},
		{"call 3 g 2", "call 3 g 0"}, {"call -1 g 1 2", "call -1 g 1 0"}, {"call 2 g 2 2", "call 2 g 0 0"}, {"call 4 g 1 2 3", "call 4 g 1 0 3"},
		{"call 3 g 2 1 2 1", "call 3 g 0 1 0 1"}, {"call -1 g 3 4 5 6 2", "call -1 g 3 4 5 6 0"}, {"call 3 g 2 2 2 2 2 2", "call 3 g 0 0 0 0 0 0"}, {"call 2 g 1 3 4 5 6 2", "call 2 g 1 3 4 5 6 0"},
		{"putc 2", "putc 0"}, {"branch 2 2 3", "branch 0 2 3"}, {"return 2", "return 0"},
	} {
		sharing{"read: " + c.reads, "copy 2 0; " + c.reads + "; putc 1; return 1", "copy 2 0; " + c.instead + "; putc 1; return 1"}.tells(t)
	}
	for _, l := range []string{"const 3 2", "frame 3 2", "getc 3", "jump 2", "call 3 g", "call -1 g", "neg 3 1", "store 0 1", "return 1"} {
		sharing{"not read: " + l, "copy 2 0; " + l + "; putc 1; return 1", ""}.tells(t)
	}
	// The other Args are 0, which may be no register that is read.
	for _, l := range []string{"call 3 g", "call -1 g", "call 3 g 1", "call -1 g 1 1 1", "call 4 g 1 1 1 1 1"} {
		sharing{"not read: " + l, "copy 0 1; " + l + "; return 1", ""}.tells(t)
	}
	sharing{"0 as an argument", "copy 0 1; call 3 g 0; return 1", "copy 0 1; call 3 g 1; return 1"}.tells(t)
	sharing{"several at once", "copy 2 0; copy 3 1; call 4 g 2 3 2 5 3 0; sub 5 3 2; store 2 3; return 2", "copy 2 0; copy 3 1; call 4 g 0 1 0 5 1 0; sub 5 1 0; store 0 1; return 0"}.tells(t)
}

// TestOnlySet holds that a register which is set and not read stays, whatever it equals.
func TestOnlySet(t *testing.T) {
	for _, l := range setters() {
		sharing{"set: " + l, "copy 2 0; " + at(l, 2) + "; return 1", ""}.tells(t)
	}
	for _, c := range []struct{ reads, instead string }{{"neg 2 2", "neg 2 0"}, {"add 2 2 2", "add 2 0 0"}, {"load 2 2", "load 2 0"}, {"copy 2 2", "copy 2 0"}, {"call 2 g 2", "call 2 g 0"}, {"rem 2 2 2", "rem 2 0 0"}} {
		sharing{"set, and read: " + c.reads, "copy 2 0; " + c.reads + "; return 1", "copy 2 0; " + c.instead + "; return 1"}.tells(t)
	}
}

// TestSetAgain has a Copy whose register, or whose source, is set afterwards.
func TestSetAgain(t *testing.T) {
	for _, l := range setters() {
		source, register := at(l, 3), at(l, 2)
		for _, s := range []sharing{
			{"the source", "copy 2 3; " + source + "; putc 2; return 3", ""},
			{"the register", "copy 2 3; " + register + "; putc 2; return 3", ""},
			{"both", "copy 2 3; " + source + "; getc 2; store 2 3; return 1", ""},
			{"another one", "copy 2 3; " + at(l, 4) + "; putc 2; return 3", "copy 2 3; " + at(l, 4) + "; putc 3; return 3"},
			{"ahead", source + "; copy 2 3; putc 2; return 2", source + "; copy 2 3; putc 3; return 3"},
			{"the source, then copied again", "copy 2 3; " + source + "; putc 2; copy 2 3; return 2", "copy 2 3; " + source + "; putc 2; copy 2 3; return 3"},
			{"the register, then copied again", "copy 2 3; " + register + "; putc 2; copy 2 3; return 2", "copy 2 3; " + register + "; putc 2; copy 2 3; return 3"},
		} {
			s.what += ", by " + l
			s.tells(t)
		}
	}
	for _, l := range others() {
		sharing{"none: " + l, "copy 2 3; " + l + "; putc 2; return 1", "copy 2 3; " + l + "; putc 3; return 1"}.tells(t)
	}
}

// TestCopiedAgain has the same where a Copy sets the register, or the source.
func TestCopiedAgain(t *testing.T) {
	for _, s := range []sharing{
		{"the source", "copy 2 3; copy 3 6; putc 2; return 3", "copy 2 3; copy 3 6; putc 2; return 6"},
		{"the register", "copy 2 3; copy 2 6; putc 2; return 3", "copy 2 3; copy 2 6; putc 6; return 3"},
		{"both", "copy 2 3; copy 3 6; copy 2 6; store 2 3; return 1", "copy 2 3; copy 3 6; copy 2 6; store 6 6; return 1"},
		{"another one", "copy 2 3; copy 4 6; putc 2; return 4", "copy 2 3; copy 4 6; putc 3; return 6"},
		{"the register, then the first source is set", "copy 2 3; copy 2 4; const 3 5; putc 2; return 1", "copy 2 3; copy 2 4; const 3 5; putc 4; return 1"},
		{"the register, then the other source is set", "copy 2 3; copy 2 4; const 4 5; putc 2; return 1", ""},
		{"the register, and back, then the other source is set", "copy 2 3; copy 2 4; copy 2 3; const 4 5; return 2", "copy 2 3; copy 2 4; copy 2 3; const 4 5; return 3"},
		{"the register, and back, then the first source is set", "copy 2 3; copy 2 4; copy 2 3; const 3 5; return 2", ""},
		{"the same", "copy 2 3; copy 2 3; putc 2; const 3 5; return 2", "copy 2 3; copy 2 3; putc 3; const 3 5; return 2"},
		{"the registers 0 and 1", "copy 1 0; const 1 5; copy 0 1; putc 0; const 1 6; return 0", "copy 1 0; const 1 5; copy 0 1; putc 1; const 1 6; return 0"},
		{"the source 0, set again", "copy 1 0; const 0 5; copy 2 1; putc 2; putc 1; return 0", "copy 1 0; const 0 5; copy 2 1; putc 1; putc 1; return 0"},
	} {
		s.tells(t)
	}
}

func TestCopiesOfCopies(t *testing.T) {
	for _, s := range []sharing{
		{"the original", "copy 2 0; copy 3 2; copy 4 3; putc 4; putc 3; putc 2; return 0", "copy 2 0; copy 3 0; copy 4 0; putc 0; putc 0; putc 0; return 0"},
		{"two of one", "copy 2 0; copy 3 0; add 4 2 3; return 4", "copy 2 0; copy 3 0; add 4 0 0; return 4"},
		{"one in the midst is set", "copy 2 0; copy 3 2; const 2 5; putc 3; putc 2; return 0", "copy 2 0; copy 3 0; const 2 5; putc 0; putc 2; return 0"},
		{"the last one is set", "copy 2 0; copy 3 2; const 3 5; putc 2; putc 3; return 0", "copy 2 0; copy 3 0; const 3 5; putc 0; putc 3; return 0"},
		{"one of two is set", "copy 2 0; copy 3 0; const 2 5; putc 3; putc 2; return 0", "copy 2 0; copy 3 0; const 2 5; putc 0; putc 2; return 0"},
		// Each is a Copy of the original by then, not of one another.
		{"the original is set", "copy 2 0; copy 3 2; const 0 5; putc 3; putc 2; return 0", "copy 2 0; copy 3 0; const 0 5; putc 3; putc 2; return 0"},
		{"the original is set, and copied again", "copy 2 0; copy 3 2; const 0 5; copy 2 0; putc 3; return 2", "copy 2 0; copy 3 0; const 0 5; copy 2 0; putc 3; return 0"},
		{"the original is set, and one is copied from the other", "copy 2 0; copy 3 2; const 0 5; copy 3 2; putc 3; return 2", "copy 2 0; copy 3 0; const 0 5; copy 3 2; putc 2; return 2"},
		{"one in the midst goes to another one", "copy 2 0; copy 3 2; copy 2 1; putc 3; putc 2; return 0", "copy 2 0; copy 3 0; copy 2 1; putc 0; putc 1; return 0"},
		{"then their own sources", "copy 2 0; copy 3 1; copy 4 2; copy 5 3; store 4 5; return 5", "copy 2 0; copy 3 1; copy 4 0; copy 5 1; store 0 1; return 1"},
		{"six in a row", "copy 2 1; copy 3 2; copy 4 3; copy 5 4; copy 6 5; copy 7 6; return 7", "copy 2 1; copy 3 1; copy 4 1; copy 5 1; copy 6 1; copy 7 1; return 1"},
		{"against a row", "copy 4 3; copy 3 2; copy 2 1; putc 4; putc 3; return 2", "copy 4 3; copy 3 2; copy 2 1; putc 4; putc 3; return 1"},
	} {
		s.tells(t)
	}
}

// TestCopiesBack has registers that are copied to themselves, or from one another.
func TestCopiesBack(t *testing.T) {
	for _, s := range []sharing{
		{"to itself", "copy 2 2; putc 2; return 0", ""},
		{"to itself, twice", "copy 0 0; copy 0 0; return 0", ""},
		{"to itself, the source of another one: it is set", "copy 2 0; copy 0 0; putc 2; return 0", ""},
		{"to itself, what equals another one", "copy 2 0; copy 2 2; putc 2; return 0", "copy 2 0; copy 2 0; putc 0; return 0"},
		{"to itself, then it is copied", "copy 0 0; copy 2 0; return 2", "copy 0 0; copy 2 0; return 0"},
		{"each from the other one", "copy 2 0; copy 0 2; putc 0; putc 2; return 1", "copy 2 0; copy 0 0; putc 0; putc 2; return 1"},
		{"each from the other one, of registers that are none else's", "copy 2 3; copy 3 2; putc 3; putc 2; return 1", "copy 2 3; copy 3 3; putc 3; putc 2; return 1"},
		{"each from the other one, and again", "copy 2 0; copy 0 2; copy 2 0; copy 0 2; putc 0; return 2", "copy 2 0; copy 0 0; copy 2 0; copy 0 0; putc 0; return 2"},
		{"each from the other one, and the first again", "copy 2 0; copy 0 2; copy 2 0; putc 0; return 2", "copy 2 0; copy 0 0; copy 2 0; putc 0; return 0"},
		{"three in a ring", "copy 2 0; copy 3 2; copy 0 3; putc 0; putc 2; return 3", "copy 2 0; copy 3 0; copy 0 0; putc 0; putc 2; return 3"},
		{"two change places", "copy 2 0; copy 0 1; copy 1 2; putc 0; putc 1; return 2", "copy 2 0; copy 0 1; copy 1 2; putc 0; putc 2; return 2"},
		{"the same again", "copy 2 0; copy 2 0; return 2", "copy 2 0; copy 2 0; return 0"},
	} {
		s.tells(t)
	}
}

// TestCopiesInRuns holds that what equals what is known within a run alone.
func TestCopiesInRuns(t *testing.T) {
	for _, s := range []sharing{
		{"behind a Jump", "copy 2 0; jump 2; return 2", ""},
		{"behind a Branch", "copy 2 0; branch 1 2 3; return 2; return 2", ""},
		{"the Branch itself", "copy 2 0; branch 2 2 3; return 2; return 2", "copy 2 0; branch 0 2 3; return 2; return 2"},
		{"where a Branch leads", "copy 2 0; putc 2; branch 1 1 3; return 1", ""},
		{"where a Jump leads", "copy 2 0; putc 2; jump 1", ""},
		{"where a Jump leads that is not reached", "copy 2 0; putc 2; return 0; jump 1", ""},
		{"ahead of where a Jump leads", "copy 2 0; putc 2; putc 2; jump 2", "copy 2 0; putc 0; putc 2; jump 2"},
		{"behind where a Jump leads", "putc 2; copy 2 0; putc 2; jump 1", "putc 2; copy 2 0; putc 0; jump 1"},
		{"to 0", "copy 2 0; putc 2; jump 0", "copy 2 0; putc 0; jump 0"},
		{"behind a Return", "copy 2 0; return 0; putc 2; return 2", ""},
		{"not reached", "return 0; copy 2 0; putc 2; return 2", "return 0; copy 2 0; putc 0; return 0"},
		{"the same in each run", "copy 2 0; putc 2; jump 3; copy 2 1; putc 2; branch 2 6 6; copy 3 2; return 3", "copy 2 0; putc 0; jump 3; copy 2 1; putc 1; branch 1 6 6; copy 3 2; return 2"},
		{"a Call between", "copy 2 0; call 3 g 2; putc 2; return 3", "copy 2 0; call 3 g 0; putc 0; return 3"},
	} {
		s.tells(t)
	}
}
