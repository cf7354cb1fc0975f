package color_test

import (
	"math"
	"slices"
	"strings"
	"testing"

	"doppel/api"
	"doppel/code"
	"doppel/color"
	"doppel/sample"
)

// placing is a function, and where its registers live.
type placing struct {
	what         string
	params, regs int
	code         string
	places       []int
}

func (p placing) tells(t *testing.T) {
	t.Helper()
	f := function(t, p.what, p.params, p.regs, p.code)
	places := color.Of(f)
	same(t, p.what+": Of", places, p.places)
	if !color.Fine(f, places) {
		t.Error(p.what + ": what Of tells is not fine")
	}
}

type places = []int

func TestOf(t *testing.T) {
	for _, p := range []placing{
		{"the example", 0, 3, "const 0 1; const 1 2; add 2 0 1; return 2", places{0, 1, 0}},
		{"no register", 0, 0, "jump 0", nil},
		{"one register", 0, 1, "return 0", places{0}},
		{"one register, not named", 0, 1, "jump 0", places{0}},
		{"not named", 0, 4, "const 1 5; return 1", places{0, 0, 0, 0}},
		{"one parameter", 1, 1, "return 0", places{0}},
		{"parameters that are not named", 6, 7, "jump 0", places{0, 1, 2, 3, 4, 5, 0}},
		{"parameters, the last one is read", 3, 3, "return 2", places{1, 2, 0}},
		{"of equal weight, the lower number first", 0, 4, "const 3 1; const 2 2; const 1 3; call 0 g 1 2 3; return 0", places{0, 0, 1, 2}},
		{"a heavier one first", 0, 3, "const 0 1; const 1 2; putc 1; add 2 0 1; return 2", places{1, 0, 0}},
		{"the heaviest one first", 0, 4, "const 0 1; const 1 2; const 2 3; putc 1; putc 2; putc 2; add 3 0 1; add 3 3 2; return 3", places{2, 1, 0, 1}},
		{"named often by one instruction", 0, 3, "const 0 1; const 1 2; call 2 g 1 1 0; return 2", places{1, 0, 0}},
		{"a Copy of the other one", 0, 3, "const 0 5; copy 1 0; add 2 0 1; return 2", places{0, 0, 0}},
		{"in a row, places come again", 0, 5, "const 0 1; const 1 2; putc 0; const 2 3; putc 1; const 3 4; putc 2; const 4 5; putc 3; return 4", places{0, 1, 0, 1, 0}},
		{"a conflict at what is not reached", 0, 2, "const 0 1; return 0; const 1 5; putc 0; return 1", places{0, 1}},
	} {
		p.tells(t)
	}
}

// TestOfLoops has a register that is named once in a loop, and another one that is named a number of times outside.
func TestOfLoops(t *testing.T) {
	for many := range 20 {
		for _, regs := range [][2]int{{0, 1}, {1, 0}} {
			outside, inside := number(regs[0]), number(regs[1])
			// Outside, it is named by the Return once more; inside, by the Branch alone.
			text := strings.Repeat("putc "+outside+"; ", many) + "branch " + inside + " " + number(many) + " " + number(many+1) + "; return " + outside
			want := places{0, 0}
			first := regs[0]
			if many+1 < 9 || many+1 == 9 && regs[1] == 0 {
				first = regs[1]
			}
			want[1-first] = 1
			placing{"named inside, and outside " + number(many+1), 0, 2, text, want}.tells(t)
		}
	}
	for _, p := range []placing{
		{"in two loops, and in one", 0, 3, "putc 0; putc 2; branch 2 1 3; branch 1 0 4; return 0", places{1, 2, 0}},
		{"in two loops, and twice in one", 0, 3, "putc 0; putc 0; putc 2; branch 1 2 4; branch 1 0 5; return 0", places{1, 0, 2}},
	} {
		p.tells(t)
	}
}

// TestOfBetween has a last register that conflicts with all others but one: the place of that one is free, also between taken ones.
func TestOfBetween(t *testing.T) {
	for _, p := range []placing{
		{"the first one", 0, 4, "store 0 0; store 0 0; store 1 1; putc 1; putc 2; const 3 5; putc 1; putc 2; return 3", places{0, 1, 2, 0}},
		{"the second one", 0, 4, "store 0 0; store 0 0; store 1 1; store 1 1; putc 2; const 3 5; putc 0; putc 2; return 3", places{0, 1, 2, 1}},
		{"the third one", 0, 5, "store 0 0; store 0 0; store 0 0; store 1 1; store 1 1; putc 1; store 2 2; putc 2; putc 3; const 4 5; putc 0; putc 1; putc 3; return 4", places{0, 1, 2, 3, 2}},
		{"the last one", 0, 4, "store 0 0; store 0 0; store 1 1; store 1 1; putc 2; putc 2; const 3 5; putc 0; putc 1; return 3", places{0, 1, 2, 2}},
		{"the second slot", 0, 4, "store 0 0; store 0 0; store 1 1; store 1 1; store 2 2; call -1 g; putc 0; putc 1; putc 2; const 3 5; call -1 g; putc 0; putc 2; return 3", places{6, 7, 8, 7}},
	} {
		p.tells(t)
	}
}

func TestOfKept(t *testing.T) {
	for _, p := range []placing{
		{"one", 0, 1, "const 0 1; call -1 g; return 0", places{6}},
		{"one, and what the Call sets", 0, 3, "const 0 1; call 1 g; add 2 0 1; return 2", places{6, 0, 0}},
		{"two that conflict", 0, 2, "const 0 1; const 1 2; call -1 g; putc 0; return 1", places{6, 7}},
		{"two that conflict, the heavier one first", 0, 2, "const 0 1; const 1 2; call -1 g; putc 0; putc 1; return 1", places{7, 6}},
		{"two that do not", 0, 2, "const 0 1; call -1 g; putc 0; const 1 2; call -1 g; return 1", places{6, 6}},
		{"between others", 0, 3, "const 0 1; const 1 2; call -1 g; putc 0; putc 0; const 2 3; putc 1; putc 1; call -1 g; return 2", places{6, 7, 6}},
		{"it conflicts with others that are not kept", 0, 3, "const 0 1; const 1 2; putc 1; const 2 3; putc 2; call -1 g; return 0", places{6, 0, 0}},
		{"parameters", 2, 2, "call -1 g; putc 1; return 0", places{6, 7}},
		{"one parameter of two", 2, 2, "call -1 g 0; return 1", places{0, 6}},
		{"by a Call that is not reached", 0, 2, "const 0 1; return 0; call -1 g; return 1", places{0, 6}},
		{"arguments that are not read again", 0, 3, "const 0 1; const 1 2; call 2 g 0 1; return 2", places{0, 1, 0}},
	} {
		p.tells(t)
	}
}

// together is a function of registers that are all live together. So many of them are live behind a Call, too.
func together(regs, kept int) api.Func {
	f := sample.Func("f", 0, regs, 0)
	for register := range regs {
		f.Code = append(f.Code, sample.Const(register, register))
	}
	for register := kept; register < regs; register++ {
		f.Code = append(f.Code, sample.Putc(register))
	}
	f.Code = append(f.Code, sample.Call(-1, "g"))
	for register := range kept {
		f.Code = append(f.Code, sample.Putc(register))
	}
	return sample.Func("f", 0, regs, 0, append(f.Code, sample.Jump(len(f.Code)))...)
}

// TestOfMany has more registers than a machine has, all of which conflict: those that must be kept come first, as they have the lower numbers, and all weigh the same.
func TestOfMany(t *testing.T) {
	for _, regs := range []int{1, 5, 6, 7, 8, 12, 13, 40, 300, 1000} {
		for _, kept := range []int{0, 1, 3, 6, 40} {
			if kept > regs {
				continue
			}
			f, what := together(regs, kept), number(regs)+", of which are kept "+number(kept)
			if !code.RightFunc(f) {
				t.Fatal("not valid: " + what)
			}
			others := regs - kept
			want := append(upTo(6, 5+kept), upTo(0, min(others, 6)-1)...)
			want = append(want, upTo(6+kept, 6+kept+others-6-1)...)
			same(t, what+": Of", color.Of(f), want)
			same(t, what+": Waits", color.Waits(f), append(slices.Repeat([]bool{true}, kept), make([]bool, others)...))
			for register, l := range color.Meet(f) {
				same(t, what+": Meet", l, slices.Delete(upTo(0, regs-1), register, register+1))
			}
			if !color.Fine(f, want) {
				t.Error(what + ": not fine")
			}
		}
	}
}

// TestOfSlots has registers that are not kept and have slots below that of one which is, as that one is lighter.
func TestOfSlots(t *testing.T) {
	f := together(9, 1)
	f.Code = slices.Insert(f.Code, 9, sample.Store(1, 2), sample.Store(3, 4), sample.Store(5, 6), sample.Store(7, 8))
	f.Code[len(f.Code)-1] = sample.Jump(len(f.Code) - 1)
	if !code.RightFunc(f) {
		t.Fatal("not valid")
	}
	same(t, "Of", color.Of(f), places{8, 0, 1, 2, 3, 4, 5, 6, 7})
	same(t, "Waits", color.Waits(f), tells(9, "0"))
}

func TestFine(t *testing.T) {
	const text = "const 0 1; const 1 2; call 2 g 0; add 2 2 1; return 2"
	f := function(t, "fine", 0, 4, text)
	const far = math.MaxInt
	for _, c := range []struct {
		what   string
		places []int
		is     bool
	}{
		{"what Of tells", places{0, 6, 0, 0}, true},
		{"others", places{5, 6, 5, 5}, true},
		{"all unlike", places{1, 9, 3, 2}, true},
		{"all slots", places{7, 6, 8, 9}, true},
		{"slots again", places{7, 6, 7, 7}, true},
		{"an unused register has the place of another one", places{0, 6, 1, 6}, true},
		{"an unused register has the place of none", places{0, 6, 1, 4}, true},
		{"huge ones", places{far, far - 1, far, far}, true},
		{"huge ones of which 32 bits are the same", places{6 + 1<<32, 6, 6 + 1<<32, 0}, true},
		{"a huge one for what is kept", places{0, far, 0, 0}, true},
		{"two that conflict have one", places{6, 6, 0, 0}, false},
		{"two others that conflict have one", places{0, 6, 6, 0}, false},
		{"two that conflict have one, a huge one", places{far, far, 0, 0}, false},
		{"what is kept has the first register", places{1, 0, 1, 0}, false},
		{"what is kept has the last register", places{0, 5, 0, 0}, false},
		{"a negative one", places{-1, 6, 0, 0}, false},
		{"a negative one of what is kept", places{0, -1, 0, 0}, false},
		{"a negative one of an unused register", places{0, 6, 0, -1}, false},
		{"the most negative one", places{0, 6, math.MinInt, 0}, false},
		{"a negative one of which 32 bits are a slot", places{0, 6 - 1<<32, 0, 0}, false},
		{"too few", places{0, 6, 0}, false},
		{"too many", places{0, 6, 0, 0, 0}, false},
		{"none", nil, false},
		{"one", places{0}, false},
	} {
		if is := color.Fine(f, c.places); is != c.is {
			t.Errorf("%s: Fine is %v", c.what, is)
		}
		// Room behind the places makes no difference.
		if is := color.Fine(f, append(slices.Clone(c.places), 1, 2, 3)[:len(c.places)]); is != c.is {
			t.Errorf("%s, with room: Fine is %v", c.what, is)
		}
	}
}

// TestFineElsewhere has functions with a single register or none, and conflicts of each kind.
func TestFineElsewhere(t *testing.T) {
	for _, c := range []struct {
		what         string
		params, regs int
		code         string
		places       []int
		is           bool
	}{
		{"no register", 0, 0, "jump 0", nil, true},
		{"no register, a place", 0, 0, "jump 0", places{0}, false},
		{"one register", 0, 1, "return 0", places{0}, true},
		{"one register, a slot", 0, 1, "return 0", places{70}, true},
		{"one register, none", 0, 1, "return 0", places{}, false},
		{"parameters", 2, 2, "return 0", places{1, 0}, true},
		{"parameters that are not named", 2, 2, "jump 0", places{3, 3}, false},
		{"not parameters", 0, 2, "jump 0", places{3, 3}, true},
		{"live at first", 0, 2, "putc 0; return 1", places{3, 3}, false},
		{"a Copy", 0, 3, "const 0 5; copy 1 0; add 2 0 1; return 2", places{3, 3, 3}, true},
		{"a Copy, and more", 0, 3, "const 0 5; copy 1 0; neg 1 1; add 2 0 1; return 2", places{3, 3, 3}, false},
		{"dead behind it", 0, 2, "const 0 5; const 1 6; return 0", places{3, 3}, false},
		{"not reached", 0, 3, "return 0; const 1 5; putc 2; return 1", places{3, 3, 3}, false},
		{"not reached, other places", 0, 3, "return 0; const 1 5; putc 2; return 1", places{3, 3, 4}, true},
		{"what a Call sets", 0, 1, "call 0 g; return 0", places{0}, true},
		{"what is live behind a Call", 0, 1, "call -1 g; return 0", places{0}, false},
		{"what is live behind a Call, a slot", 0, 1, "call -1 g; return 0", places{6}, true},
	} {
		if is := color.Fine(function(t, c.what, c.params, c.regs, c.code), c.places); is != c.is {
			t.Errorf("%s: Fine is %v", c.what, is)
		}
	}
}

func TestSlots(t *testing.T) {
	for _, c := range []struct {
		places []int
		slots  int
	}{
		{nil, 0}, {places{}, 0}, {places{0}, 0}, {places{5}, 0}, {places{0, 1, 2, 3, 4, 5}, 0}, {places{6}, 1}, {places{7}, 2}, {places{5, 6, 0}, 1}, {places{6, 7, 8}, 3}, {places{8, 7, 6}, 3}, {places{7, 9, 8}, 4}, {places{9, 9}, 4},
		{places{-1}, 0}, {places{-7, 6, -9}, 1}, {places{math.MinInt}, 0}, {places{math.MinInt, 5}, 0}, {places{math.MinInt + 4, 7}, 2}, {places{math.MaxInt}, math.MaxInt - 5}, {places{math.MaxInt, math.MinInt, 3}, math.MaxInt - 5}, {places{1 << 32}, 1<<32 - 5}, {places{4101}, 4096},
	} {
		if slots := color.Slots(c.places); slots != c.slots {
			t.Error("Slots of", c.places, "are", slots)
		}
	}
	if color.Registers != 6 {
		t.Error("Registers are", color.Registers)
	}
}

// TestInvalid has functions that may not be: nothing is told of them.
func TestInvalid(t *testing.T) {
	for _, wrong := range []map[string]api.Func{sample.Wrong(), sample.WrongSmall()} {
		for what, f := range wrong {
			if l := told(f); len(l.meet)+len(l.waits)+len(l.weights)+len(l.places) > 0 {
				t.Errorf("%s: %v", what, l)
			}
			for regs := range 12 {
				for _, first := range []int{0, 6} {
					if color.Fine(f, upTo(first, first+regs-1)) {
						t.Errorf("%s: Fine of %d places", what, regs)
					}
				}
			}
			if color.Fine(f, make([]int, max(0, min(f.Regs, 9999)))) {
				t.Errorf("%s: Fine", what)
			}
		}
	}
}
