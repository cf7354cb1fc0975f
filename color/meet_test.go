package color_test

import (
	"slices"
	"strings"
	"testing"

	"doppel/color"
	"doppel/sample"
)

// meeting is a function, which registers conflict in it, two digits each, and which must be kept.
type meeting struct {
	what         string
	params, regs int
	code         string
	pairs, kept  string
}

// lists is the lists of the pairs.
func (m meeting) lists() [][]int {
	l := make([][]int, m.regs)
	for pair := range strings.FieldsSeq(m.pairs) {
		both := digits(pair)
		l[both[0]] = append(l[both[0]], both[1])
		l[both[1]] = append(l[both[1]], both[0])
	}
	for register := range l {
		slices.Sort(l[register])
	}
	return l
}

func (m meeting) tells(t *testing.T) {
	t.Helper()
	f := function(t, m.what, m.params, m.regs, m.code)
	meet := color.Meet(f)
	isMutual(t, m.what, meet)
	same(t, m.what+": Meet", sample.Lists(meet), sample.Lists(m.lists()))
	same(t, m.what+": Waits", color.Waits(f), tells(m.regs, m.kept))
	if !color.Fine(f, color.Of(f)) {
		t.Error(m.what + ": what Of tells is not fine")
	}
}

func TestMeetWhereSet(t *testing.T) {
	for _, m := range []meeting{
		{"the example", 0, 3, "const 0 1; const 1 2; add 2 0 1; return 2", "01", ""},
		{"the example, in the other order", 0, 3, "const 1 1; const 0 2; add 2 0 1; return 2", "01", ""},
		{"both read apart", 0, 2, "const 0 1; const 1 2; putc 0; return 1", "01", ""},
		{"one behind the other", 0, 2, "const 0 1; putc 0; const 1 2; return 1", "", ""},
		{"set where it is read", 0, 2, "const 0 1; neg 1 0; return 1", "", ""},
		{"set where it is read, and it is read again", 0, 2, "const 0 1; neg 1 0; putc 0; return 1", "01", ""},
		{"itself", 0, 1, "const 0 5; neg 0 0; add 0 0 0; return 0", "", ""},
		{"itself, live everywhere", 0, 1, "neg 0 0; branch 0 0 2; return 0", "", ""},
		{"dead behind it", 0, 2, "const 0 5; const 1 6; return 0", "01", ""},
		{"dead behind it, and nothing is live", 0, 2, "const 1 6; const 0 5; return 0", "", ""},
		{"dead behind it, each of several", 0, 4, "const 0 5; const 1 6; getc 2; frame 3 1; return 0", "01 02 03", ""},
		{"dead for it is set again", 0, 2, "const 0 5; const 1 6; const 1 7; add 0 0 1; return 0", "01", ""},
		{"several", 0, 4, "const 0 1; const 1 2; const 2 3; const 3 4; add 0 0 1; add 0 0 2; add 0 0 3; return 0", "01 02 03 12 13 23", ""},
		{"some of several", 0, 4, "const 0 1; const 1 2; add 2 0 1; const 3 4; add 2 2 3; return 2", "01 23", ""},
		{"a row", 0, 5, "const 0 1; const 1 2; putc 0; const 2 3; putc 1; const 3 4; putc 2; const 4 5; putc 3; return 4", "01 12 23 34", ""},
		{"in one part alone", 0, 3, "getc 2; branch 2 2 6; const 0 1; const 1 2; add 0 0 1; return 0; return 2", "01", ""},
		{"in unlike parts", 0, 3, "getc 0; branch 0 2 4; const 1 5; return 1; const 2 6; return 2", "", ""},
		{"live by one part alone", 0, 3, "getc 0; const 1 5; branch 0 3 4; return 1; const 2 6; return 2", "01", ""},
		{"a loop", 0, 2, "const 0 9; const 1 1; sub 0 0 1; branch 0 2 4; return 1", "01", ""},
		{"by a loop alone", 0, 3, "const 0 9; putc 1; const 1 5; const 2 6; putc 2; branch 0 1 6; return 0", "01 02 12", ""},
		{"a loop without an end", 0, 3, "const 0 9; const 1 1; putc 0; jump 1", "01", ""},
		{"not live, for the end comes first", 0, 2, "const 0 1; const 1 2; return 1", "", ""},
	} {
		m.tells(t)
	}
}

// TestMeetOfEachKind has each kind of instruction, where other registers are live and where none is.
func TestMeetOfEachKind(t *testing.T) {
	for _, text := range []string{"const 2 5", "neg 2 1", "add 2 1 1", "div 2 1 1", "copy 2 2", "frame 2 1", "load 2 1", "call 2 g", "call 2 g 1 1", "getc 2"} {
		kept := ""
		if strings.HasPrefix(text, "call") {
			kept = "01"
		}
		const begin = "const 1 2; const 0 1; "
		meeting{"others are live: " + text, 0, 3, begin + text + "; putc 1; return 0", "01 02 12", kept}.tells(t)
		meeting{"it is live with others: " + text, 0, 3, begin + text + "; putc 2; putc 1; return 0", "01 02 12", kept}.tells(t)
		meeting{"it is live alone: " + text, 0, 3, "const 1 2; " + strings.Replace(text, "copy 2 2", "copy 2 1", 1) + "; return 2", "", ""}.tells(t)
	}
	for _, text := range []string{"store 1 1", "call -1 g", "call -1 g 1 1", "putc 1", "jump 3", "branch 1 3 3"} {
		kept := ""
		if strings.HasPrefix(text, "call") {
			kept = "01"
		}
		meeting{"sets none: " + text, 0, 3, "const 1 2; const 0 1; " + text + "; putc 1; return 0", "01", kept}.tells(t)
	}
}

func TestMeetOfCopies(t *testing.T) {
	for _, m := range []meeting{
		{"of the other one", 0, 3, "const 0 5; copy 1 0; add 2 0 1; return 2", "", ""},
		{"of the other one, with a lower number", 0, 3, "const 1 5; copy 0 1; add 2 0 1; return 2", "", ""},
		{"of the other one, which is set later", 0, 3, "const 0 5; copy 1 0; neg 0 0; add 2 0 1; return 2", "01", ""},
		{"of the other one, and then set", 0, 3, "const 0 5; copy 1 0; neg 1 1; add 2 0 1; return 2", "01", ""},
		{"of the other one, and then a Copy of it the other way", 0, 3, "const 0 5; copy 1 0; copy 0 1; add 2 0 1; return 2", "", ""},
		{"of the other one, twice", 0, 3, "const 0 5; copy 1 0; putc 1; copy 1 0; add 2 0 1; return 2", "", ""},
		{"of the other one, where the other one was set while it was live", 0, 3, "const 1 6; const 0 5; putc 1; copy 1 0; add 2 0 1; return 2", "01", ""},
		{"of the other one, by an instruction that is not reached", 0, 3, "const 0 5; copy 1 0; add 2 0 1; return 2; const 0 4; return 1", "01", ""},
		{"of the other one, which is dead then", 0, 2, "const 0 5; copy 1 0; return 1", "", ""},
		{"of the other one, and a third one is live", 0, 4, "const 3 1; const 0 5; copy 1 0; add 2 0 1; add 2 2 3; return 2", "03 13 23", ""},
		{"of a third one, which is live", 0, 4, "const 0 1; const 1 2; copy 2 1; add 3 2 0; add 3 3 1; return 3", "01 02 13", ""},
		{"of a third one, which is dead", 0, 4, "const 0 1; const 1 2; copy 2 1; add 3 2 0; return 3", "01 02", ""},
		{"of a Copy", 0, 4, "const 0 1; copy 1 0; copy 2 1; add 3 0 1; add 3 3 2; return 3", "02 23", ""},
		{"of two, each of the same", 0, 4, "const 0 1; copy 1 0; copy 2 0; add 3 1 2; return 3", "12", ""},
		{"to itself", 0, 3, "const 0 1; copy 1 0; copy 1 1; add 2 0 1; return 2", "01", ""},
		{"to itself, and nothing else is live", 0, 2, "const 0 1; copy 0 0; copy 1 0; return 1", "", ""},
		{"that is dead, of the other one", 0, 2, "const 0 1; copy 1 0; return 0", "", ""},
		{"that is dead, of a third one", 0, 3, "const 0 1; const 2 3; copy 1 2; return 0", "01 02", ""},
		{"of one, and another instruction of the same registers", 0, 3, "const 0 5; not 1 0; add 2 0 1; return 2", "01", ""},
		{"of parameters", 2, 3, "copy 0 1; add 2 0 1; return 2", "01", ""},
		{"of what is live at first", 0, 3, "copy 1 0; add 2 0 1; return 2", "", ""},
		{"both are live at first", 0, 3, "putc 1; copy 1 0; add 2 0 1; return 2", "01", ""},
	} {
		m.tells(t)
	}
}

func TestMeetAtFirst(t *testing.T) {
	for _, m := range []meeting{
		{"live at first", 0, 3, "add 2 0 1; return 2", "01", ""},
		{"live at first, read apart", 0, 2, "putc 0; return 1", "01", ""},
		{"live at first, one of two", 0, 2, "putc 0; const 1 5; return 1", "", ""},
		{"live at first, several", 0, 4, "call -1 g 2 3; putc 1; return 0", "01 02 03 12 13 23", "01"},
		{"live at first, on unlike ways", 0, 3, "branch 0 1 2; return 1; return 2", "01 02 12", ""},
		{"live at first, set by what reads it", 0, 2, "neg 0 0; add 0 0 1; return 0", "01", ""},
		{"live at first, by a loop", 0, 2, "const 0 1; putc 1; branch 0 0 3; return 1", "01", ""},
		{"live later, but not at first", 0, 3, "const 0 1; copy 1 0; add 2 0 1; return 2", "", ""},
		{"no register", 0, 0, "jump 0", "", ""},
		{"no register is named", 0, 3, "jump 0", "", ""},
		{"one register", 0, 1, "return 0", "", ""},
		{"one parameter", 1, 1, "return 0", "", ""},
		{"two parameters", 2, 2, "return 0", "01", ""},
		{"parameters that are never read", 3, 4, "const 3 0; return 3", "01 02 12", ""},
		{"parameters that are not named at all", 3, 3, "jump 0", "01 02 12", ""},
		{"parameters that are set", 2, 2, "const 0 1; return 0", "01", ""},
		{"parameters of which each is read alone", 2, 3, "branch 2 1 2; return 0; return 1", "01 02 12", ""},
		{"six parameters", 6, 7, "const 6 1; return 6", "01 02 03 04 05 12 13 14 15 23 24 25 34 35 45", ""},
		{"a parameter, and one that is live at first", 2, 3, "putc 2; return 0", "01 02", ""},
		{"a parameter, and one that is set", 2, 3, "const 2 1; add 2 2 1; return 2", "01 12", ""},
		{"not a parameter", 1, 3, "return 0", "", ""},
	} {
		m.tells(t)
	}
}

// TestMeetNotReached has instructions that are not reached: registers are live there, too.
func TestMeetNotReached(t *testing.T) {
	for _, m := range []meeting{
		{"set there", 0, 3, "return 0; const 1 5; putc 2; return 1", "12", ""},
		{"set there, where it is live", 0, 2, "const 0 1; return 0; const 1 5; putc 0; return 1", "01", ""},
		{"read there alone", 0, 2, "const 0 1; const 1 2; return 0; return 1", "01", ""},
		{"read there alone, and set last", 0, 2, "const 1 2; const 0 1; return 0; return 1", "", ""},
		{"a Copy there", 0, 2, "return 0; copy 1 0; putc 0; return 1", "", ""},
		{"it leads back", 0, 2, "const 0 1; putc 0; return 0; const 1 1; jump 1", "01", ""},
		{"a Call there", 0, 3, "return 0; call 2 g 0; putc 1; return 2", "12", "1"},
		{"a Call there, which leads back", 0, 2, "const 1 2; return 1; call -1 g 0; jump 1", "", "1"},
	} {
		m.tells(t)
	}
}

func TestWaits(t *testing.T) {
	for _, m := range []meeting{
		{"live behind it", 0, 1, "const 0 1; call -1 g; return 0", "", "0"},
		{"live behind it, and the Call sets another one", 0, 3, "const 0 1; call 1 g; add 2 0 1; return 2", "01", "0"},
		{"what the Call sets", 0, 1, "call 0 g; return 0", "", ""},
		{"what the Call sets and reads", 0, 1, "const 0 5; call 0 g 0; return 0", "", ""},
		{"what the Call sets, and is dead", 0, 2, "const 0 1; call 1 g; return 0", "01", "0"},
		{"what one Call sets, behind another one", 0, 3, "call 0 g; call 1 g; add 2 0 1; return 2", "01", "0"},
		{"what both Calls set", 0, 1, "call 0 g; call 0 g 0; return 0", "", ""},
		{"an argument that is read again", 0, 3, "const 0 1; call 1 g 0; add 2 0 1; return 2", "01", "0"},
		{"an argument that is read again, without a Dst", 0, 2, "const 0 1; call -1 g 0 0; return 0", "", "0"},
		{"an argument that is not read again", 0, 2, "const 0 1; call 1 g 0; return 1", "", ""},
		{"an argument that is set again", 0, 2, "const 0 1; call 1 g 0; const 0 2; add 1 1 0; return 1", "01", ""},
		{"some of six arguments", 0, 6, "call -1 g 0 1 2 3 4 5; putc 3; return 5", "01 02 03 04 05 12 13 14 15 23 24 25 34 35 45", "35"},
		{"a parameter", 1, 1, "call -1 g; return 0", "", "0"},
		{"a parameter that is not read", 1, 2, "call 1 g; return 1", "", ""},
		{"a parameter that is read ahead of it", 2, 3, "putc 0; call 2 g; add 2 2 1; return 2", "01 12", "1"},
		{"set behind it", 0, 1, "call -1 g; const 0 1; return 0", "", ""},
		{"dead behind it", 0, 2, "const 0 1; const 1 2; call -1 g 0; return 1", "01", "1"},
		{"on one way alone", 0, 2, "const 0 1; const 1 5; branch 0 3 4; call -1 g; return 1", "01", "1"},
		{"on the other way alone", 0, 2, "const 0 1; const 1 5; branch 0 4 3; return 0; call -1 g; return 1", "01", "1"},
		{"in a loop", 0, 2, "const 0 9; call 1 g 0; branch 1 1 3; return 1", "01", "0"},
		{"in a loop, what it sets", 0, 1, "call 0 g 0; branch 0 0 2; return 0", "", ""},
		{"at the end of a loop", 0, 2, "putc 0; const 1 1; putc 1; call -1 g; jump 0", "01", "0"},
		{"a Copy behind it", 0, 2, "const 0 1; call -1 g; copy 1 0; return 1", "", "0"},
		{"no Call", 0, 2, "getc 0; getc 1; putc 0; return 1", "01", ""},
		{"a Call of itself", 1, 2, "call 1 f 0; add 1 1 0; return 1", "01", "0"},
	} {
		m.tells(t)
	}
}
