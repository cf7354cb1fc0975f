package inline_test

import (
	"slices"
	"testing"

	"doppel/api"
	"doppel/inline"
	"doppel/sample"
)

// bound is a caller of so many instructions and registers, with some calls, and which of these are expanded.
type bound struct {
	what              string
	length, registers int
	calls             string
	expanded          []bool
}

// caller begins with the calls, or ends with them.
func (b bound) caller(first bool) api.Func {
	calls := sample.Read(b.calls)
	l := slices.Repeat(sample.Read("putc 0"), b.length-len(calls)-1)
	if first {
		l = append(calls, l...)
	} else {
		l = append(l, calls...)
	}
	return sample.Func("caller", 0, b.registers, 0, append(l, sample.Return(0))...)
}

// left is the calls that are not expanded.
func (b bound) left() []api.Instr {
	var l []api.Instr
	for k, i := range sample.Read(b.calls) {
		if !b.expanded[k] {
			l = append(l, i)
		}
	}
	return l
}

func (b bound) tells(t *testing.T) {
	t.Helper()
	for _, first := range []bool{true, false} {
		u := valid(t, b.what, unit(append(some(sample.Read(b.calls)), b.caller(first))...))
		holds(t, b.what, u)
		got, count := inline.Of(u, len(u.Funcs)-1)
		left := slices.DeleteFunc(slices.Clone(got.Code), func(i api.Instr) bool { return i.Kind != api.Call })
		if !slices.Equal(left, b.left()) || count+len(left) != len(b.expanded) {
			t.Errorf("%s: %d are expanded; these are left: %s", b.what, count, sample.Show(api.Func{Code: left}))
		}
	}
}

// TestManyInstructions has callers with which the instructions that are inserted are as many as may be, or one more.
func TestManyInstructions(t *testing.T) {
	for call, inserted := range map[string]int{
		"call 0 id 1": 3, "call -1 id 1": 2, "call 0 zero": 3, "call -1 zero": 2, "call 0 sum 1 1": 6, "call -1 sum 1 1": 5,
		"call 0 pick 1 1": 7, "call -1 pick 1 1": 5, "call 0 six 1 1 1 1 1 1": 9, "call 0 early 1": 7, "call 0 kinds 1": 16, "call -1 kinds 1": 15,
	} {
		for _, more := range []int{-1, 0, 1, inserted} {
			bound{call + ", " + number(more) + " more", api.MaxCode - inserted + more, 9, call, []bool{more <= 0}}.tells(t)
		}
	}
}

// TestManyRegisters has callers with which the registers are as many as may be, or one more.
func TestManyRegisters(t *testing.T) {
	for call, registers := range map[string]int{"call 0 id 1": 1, "call -1 zero": 1, "call 0 pick 1 1": 2, "call 0 sum 1 1": 3, "call -1 kinds 1": 3, "call 0 six 1 1 1 1 1 1": 6} {
		for more := -2; more <= registers; more++ {
			bound{call + ", " + number(more) + " more", 9, api.MaxRegs - registers + more, call, []bool{more <= 0}}.tells(t)
		}
	}
	// A function without registers has room for all of them, exactly.
	for registers := api.MaxRegs - 2; registers <= api.MaxRegs; registers++ {
		for own := range 3 {
			f := sample.Func("f", 0, own, 0, sample.Call(-1, "g"), sample.Jump(0))
			g := sample.Func("g", 0, registers, 0, sample.Return(registers-1))
			holds(t, "few registers", unit(f, g))
			got, count := inline.Of(unit(f, g), 0)
			if fits := own+registers <= api.MaxRegs; fits != (count == 1) || fits && (got.Regs != own+registers || len(got.Code) != registers+2) {
				t.Error("registers:", own, registers, count, got.Regs, len(got.Code))
			}
		}
	}
}

// TestNextOnesFit has calls that are not expanded, and others behind them that are.
func TestNextOnesFit(t *testing.T) {
	const six, kinds = "call 0 six 1 1 1 1 1 1; ", "call 0 kinds 1; "
	for _, b := range []bound{
		{"all fit", 9, 9, six + kinds + "call -1 id 1; call 0 sum 1 1", []bool{true, true, true, true}},
		{"a long one does not", api.MaxCode - 10, 9, kinds + "call 0 id 1", []bool{false, true}},
		{"several, until there is no room", api.MaxCode - 10, 9, kinds + "call 0 id 1; call 0 sum 1 1; call 0 sum 1 1; call 0 id 1; call 0 id 1; call -1 id 1", []bool{false, true, true, false, true, false, false}},
		{"one alone of several", api.MaxCode - 3, 9, "call 0 id 1; call 0 id 1; call -1 id 1; call -1 id 1", []bool{true, false, false, false}},
		// The call is taken away, so there is room for what takes one more.
		{"two of several", api.MaxCode - 3, 9, "call -1 id 1; call -1 id 1; call -1 id 1", []bool{true, true, false}},
		{"two without a Dst, of several", api.MaxCode - 3, 9, "call 0 sum 1 1; call -1 id 1; call 0 id 1; call -1 id 1; call -1 id 1", []bool{false, true, false, true, false}},
		{"none, for there is no room", api.MaxCode, 9, "call 0 id 1; call -1 zero", []bool{false, false}},
		{"none, for there is room for one", api.MaxCode - 1, 9, "call 0 id 1; call -1 zero", []bool{false, false}},
		{"many registers", 20, api.MaxRegs - 5, six + "call 0 id 1; " + six + "call 0 sum 1 1; call 0 sum 1 1; call -1 zero; call 0 id 1", []bool{false, true, false, true, false, true, false}},
		{"no register is left", 20, api.MaxRegs, six + "call 0 id 1; call -1 zero", []bool{false, false, false}},
		{"one register is left", 20, api.MaxRegs - 1, six + "call 0 id 1; call -1 zero", []bool{false, true, false}},
		{"too long, then too many registers, then neither", api.MaxCode - 9, api.MaxRegs - 4, kinds + six + "call -1 sum 1 1; call -1 sum 1 1; call 0 id 1", []bool{false, false, true, false, true}},
	} {
		b.tells(t)
	}
}
