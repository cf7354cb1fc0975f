package code_test

import (
	"maps"
	"math"
	"slices"
	"strings"
	"testing"

	"doppel/api"
	"doppel/code"
	"doppel/sample"
)

// copyOf is a function with code of its own.
func copyOf(f api.Func) api.Func {
	f.Code = append([]api.Instr{}, f.Code...)
	return f
}

// others is functions that differ from one in one thing each, and from one another.
func others(f api.Func) map[string]api.Func {
	l := map[string]api.Func{}
	set := func(what string, change func(f *api.Func)) {
		g := copyOf(f)
		change(&g)
		l[what] = g
	}
	for _, by := range []int{1, -1, 10, 1 << 32, math.MinInt} {
		set("Params "+number(by), func(f *api.Func) { f.Params += by })
		set("Regs "+number(by), func(f *api.Func) { f.Regs += by })
		set("Frame "+number(by), func(f *api.Func) { f.Frame += by })
		for k := range f.Code {
			at := func(change func(i *api.Instr)) func(f *api.Func) {
				return func(f *api.Func) { change(&f.Code[k]) }
			}
			what := " of " + number(k) + " " + number(by)
			set("Kind"+what, at(func(i *api.Instr) { i.Kind += by }))
			set("Op"+what, at(func(i *api.Instr) { i.Op += api.Op(by) }))
			set("Dst"+what, at(func(i *api.Instr) { i.Dst += by }))
			set("A"+what, at(func(i *api.Instr) { i.A += by }))
			set("B"+what, at(func(i *api.Instr) { i.B += by }))
			set("N"+what, at(func(i *api.Instr) { i.N += by }))
			set("To"+what, at(func(i *api.Instr) { i.To += by }))
			set("Else"+what, at(func(i *api.Instr) { i.Else += by }))
			for n := range api.MaxParams {
				set("Args "+number(n)+what, at(func(i *api.Instr) { i.Args[n] += by }))
			}
		}
	}
	for _, by := range []string{"x", " ", "\n", "1", " 1", "-1", "\"", "\\", "\x00", "\xff", "\\xff", "\ufffd", "\u00ff", "(", ","} {
		set("Name and "+by, func(f *api.Func) { f.Name += by })
		set(by+" and Name", func(f *api.Func) { f.Name = by + f.Name })
		for k := range f.Code {
			set("Text and "+by+" of "+number(k), func(f *api.Func) { f.Code[k].Text += by })
		}
	}
	for k := range f.Code {
		// All instructions differ.
		set("without "+number(k), func(f *api.Func) { f.Code = slices.Delete(f.Code, k, k+1) })
		set("another one at "+number(k), func(f *api.Func) { f.Code = slices.Insert(f.Code, k, api.Instr{}) })
	}
	set("another one at the end", func(f *api.Func) { f.Code = append(f.Code, api.Instr{}) })
	set("without any", func(f *api.Func) { f.Code = nil })
	return l
}

// broad is a function with an instruction of each kind.
func broad() api.Func { return sample.Func("f", 1, 4, 3, sample.Kinds()...) }

// alike is Same, without the package that is tested.
func alike(f, g api.Func) bool {
	return f.Name == g.Name && f.Params == g.Params && f.Regs == g.Regs && f.Frame == g.Frame && slices.Equal(f.Code, g.Code)
}

// holdAll holds that the functions of a list are told apart, by Same and by their texts, exactly if they differ.
func holdAll(t *testing.T, l []api.Func) {
	t.Helper()
	var texts []string
	for _, f := range l {
		texts = append(texts, code.Print(f))
	}
	for a, f := range l {
		for b, g := range l {
			is := alike(f, g)
			if code.Same(f, g) != is {
				t.Errorf("Same of %q and %q is %v", texts[a], texts[b], !is)
			}
			if (texts[a] == texts[b]) != is {
				t.Errorf("the same texts, or not: %v, %v: %q", f, g, texts[a])
			}
		}
	}
}

// TestOthers has functions that differ in one thing each.
func TestOthers(t *testing.T) {
	for _, f := range []api.Func{sample.Func("", 0, 0, 0), sample.Func("", 0, 0, 0, api.Instr{Kind: 7}), sample.Func("f", 6, 7, 8, full(9), full(10)), sample.Func("f 1", 0, 0, 0, sample.Call(-1, "1 2", 1, 2))} {
		holdAll(t, slices.Collect(maps.Values(others(f))))
	}
	f := broad()
	text := code.Print(f)
	for what, g := range others(f) {
		if code.Same(f, g) || code.Same(g, f) || code.Print(g) == text {
			t.Errorf("the same: %s", what)
		}
	}
}

// TestSeparators has names and Texts that hold what separates the parts of a text, so that parts might seem to be others.
func TestSeparators(t *testing.T) {
	var l []api.Func
	add := func(f api.Func) { l = append(l, f) }
	for _, name := range []string{"", "f", "f 0", "f 0 0", "f\n", "f\n0", "0", "-1", "f,", "\"", "\"\"", "f\" 0 0 0", "f\\", "f\\\"", "\\n", "\n", "'", "1:f", "4:f", " f", "f ", "\t", "\x00", "\x01", "\x80", "\\x80", "\u0080", "\ufffd", "\xef\xbf", "\u00e9", "e\u0301", "\x7f", "#", "[f]", "(f)", "f;g", "f=1"} {
		add(sample.Func(name, 0, 0, 0))
		add(sample.Func(name, 0, 0, 0, api.Instr{}))
		add(sample.Func("f", 0, 0, 0, api.Instr{Text: name}, api.Instr{Text: "x"}))
		add(sample.Func("f", 0, 0, 0, api.Instr{Text: "x"}, api.Instr{Text: name}))
		add(sample.Func(name, 1, 23, 4))
		add(sample.Func(name, 12, 3, 4))
		add(sample.Func(name, 1, 2, 34))
	}
	// Texts that are those of parts of functions.
	for _, f := range []api.Func{sample.Func("a", 1, 2, 3), sample.Func("b", 0, 1, 0, sample.Return(0)), sample.Func("c", 0, 1, 0, sample.Const(0, 1), sample.Return(0))} {
		text := code.Print(f)
		add(f)
		for _, part := range append(strings.Split(text, "\n"), text, text+text, text[:len(text)/2], text[1:]) {
			add(sample.Func(part, 1, 2, 3))
			add(sample.Func("a", 1, 2, 3, api.Instr{Text: part}))
		}
	}
	holdAll(t, l)
}

// TestSame has functions that are the same, in memory of their own.
func TestSame(t *testing.T) {
	for _, f := range []api.Func{{}, broad(), sample.Func("f", -1, 1<<40, math.MinInt, full(-3)), sample.Func("f", 0, 0, 0, slices.Repeat([]api.Instr{full(3)}, 9000)...)} {
		g := copyOf(f)
		if !code.Same(f, f) || !code.Same(f, g) || !code.Same(g, f) || code.Print(f) != code.Print(g) {
			t.Error("not the same:", f.Name)
		}
		g.Code = slices.Grow(g.Code, 100)
		if !code.Same(f, g) || code.Print(f) != code.Print(g) {
			t.Error("not the same, with room behind it:", f.Name)
		}
	}
	a, b := api.Func{Name: "f", Code: nil}, api.Func{Name: "f", Code: []api.Instr{}}
	if !code.Same(a, b) || !code.Same(b, a) || code.Print(a) != code.Print(b) {
		t.Error("no code, nil and empty")
	}
	var l []api.Func
	for seed := range 40 {
		l = append(append(l, sample.Unit(seed).Funcs...), sample.Unit(seed/2).Funcs...)
	}
	holdAll(t, l)
}

// TestPrint holds that a text has the name, Params, Regs, Frame, and then the fields of the instructions.
func TestPrint(t *testing.T) {
	f := sample.Func("some", 111, 222, -333, api.Instr{Kind: 1001, Op: 1002, Dst: 1003, A: 1004, B: -1005, N: 1006, Text: "other", Args: [api.MaxParams]int{1007, 1008, 0, 1010, 1011, math.MinInt}, To: 1013, Else: -1}, api.Instr{Kind: 2001, Text: "third", Else: math.MaxInt})
	text := code.Print(f)
	rest := text
	for _, part := range []string{"some", "111", "222", "-333", "1001", "2001"} {
		at := strings.Index(rest, part)
		if at < 0 {
			t.Fatalf("%q has no %s, or not in order", text, part)
		}
		rest = rest[at+len(part):]
	}
	for _, part := range []string{"1002", "1003", "1004", "-1005", "1006", "other", "1007", "1008", "1010", "1011", "-9223372036854775808", "1013", "-1", "third", "9223372036854775807"} {
		if !strings.Contains(text, part) {
			t.Errorf("%q has no %s", text, part)
		}
	}
	if strings.Index(text, "third") < strings.Index(text, "other") {
		t.Errorf("%q: not in order", text)
	}
}

// TestClone changes a copy, and looks at the original, and the other way round.
func TestClone(t *testing.T) {
	for _, made := range []func() api.Func{broad, func() api.Func { return sample.Func("f", -1, 1<<40, math.MinInt, full(-3)) }, func() api.Func { return api.Func{} }, func() api.Func { return api.Func{Name: "f", Code: []api.Instr{}} }} {
		f := made()
		f.Code = slices.Grow(f.Code, 5)
		// What is in the spare capacity is not the function's.
		spare := f.Code[len(f.Code):cap(f.Code)]
		for k := range spare {
			spare[k] = full(k)
		}
		g, h := code.Clone(f), code.Clone(f)
		if !code.Same(f, made()) || !code.Same(g, made()) || !code.Same(h, made()) {
			t.Fatal("not the same")
		}
		change := func(f api.Func) {
			for k := range f.Code[:cap(f.Code)] {
				f.Code[:cap(f.Code)][k] = api.Instr{Kind: 99, Text: "changed"}
			}
		}
		change(g)
		if !code.Same(f, made()) || !code.Same(h, made()) {
			t.Error("a change of a copy changes the original, or another copy")
		}
		for k := range spare {
			if spare[k] != full(k) {
				t.Error("a change of a copy changes the spare capacity")
			}
		}
		change(f)
		if !code.Same(h, made()) {
			t.Error("a change of the original changes a copy")
		}
	}
}
