package code_test

import (
	"math"
	"slices"
	"testing"

	"doppel/api"
	"doppel/code"
	"doppel/sample"
)

// TestPlain has each kind, and numbers that are none.
func TestPlain(t *testing.T) {
	for _, kind := range edges() {
		if got, want := code.Plain(kind), (api.Instr{Kind: kind, Dst: -1, Else: -1}); got != want {
			t.Errorf("Plain(%d): %v", kind, got)
		}
	}
	for n, i := range sample.Kinds() {
		if code.Plain(i.Kind).Kind != n+1 {
			t.Error("the kinds are not in their order")
		}
	}
}

// parts is what an instruction reads, what it sets, and where it goes on from 7.
type parts struct {
	i    api.Instr
	uses []int
	sets int
	next []int
}

// check holds the parts of an instruction, whatever stands in the fields that its kind has not.
func check(t *testing.T, p parts) {
	t.Helper()
	if got := code.Uses(p.i); !slices.Equal(got, p.uses) {
		t.Errorf("Uses(%v): %v; wanted %v", p.i, got, p.uses)
	}
	if got := code.Sets(p.i); got != p.sets {
		t.Errorf("Sets(%v): %d; wanted %d", p.i, got, p.sets)
	}
	if got := code.Next(p.i, 7); !slices.Equal(got, p.next) {
		t.Errorf("Next(%v): %v; wanted %v", p.i, got, p.next)
	}
}

// full is an instruction with a number in each field.
func full(kind int) api.Instr {
	return api.Instr{Kind: kind, Op: api.Add, Dst: 20, A: 21, B: 22, N: 3, Text: "f", Args: [api.MaxParams]int{31, 32, 33, 34, 35, 36}, To: 41, Else: 42}
}

// TestParts has each kind, of valid instructions, and of those that have every field.
func TestParts(t *testing.T) {
	for _, p := range []parts{
		{sample.Const(3, 5), nil, 3, []int{8}},
		{sample.Unary(api.Neg, 3, 4), []int{4}, 3, []int{8}},
		{sample.Binary(api.Div, 3, 5, 4), []int{5, 4}, 3, []int{8}},
		{sample.Binary(api.Add, 4, 4, 4), []int{4, 4}, 4, []int{8}},
		{sample.Copy(3, 4), []int{4}, 3, []int{8}},
		{sample.Copy(0, 0), []int{0}, 0, []int{8}},
		{sample.Frame(3, 4), nil, 3, []int{8}},
		{sample.Load(3, 4), []int{4}, 3, []int{8}},
		{sample.Store(5, 4), []int{5, 4}, -1, []int{8}},
		{sample.Call(3, "f"), nil, 3, []int{8}},
		{sample.Call(-1, "f"), nil, -1, []int{8}},
		{sample.Call(3, "f", 6), []int{6}, 3, []int{8}},
		{sample.Call(-1, "f", 6, 5, 6, 0), []int{6, 5, 6, 0}, -1, []int{8}},
		{sample.Call(0, "f", 9, 8, 7, 6, 5, 4), []int{9, 8, 7, 6, 5, 4}, 0, []int{8}},
		{sample.Getc(3), nil, 3, []int{8}},
		{sample.Putc(3), []int{3}, -1, []int{8}},
		{sample.Jump(3), nil, -1, []int{3}},
		{sample.Jump(7), nil, -1, []int{7}},
		{sample.Branch(3, 9, 2), []int{3}, -1, []int{9, 2}},
		{sample.Branch(3, 2, 9), []int{3}, -1, []int{2, 9}},
		{sample.Branch(3, 5, 5), []int{3}, -1, []int{5, 5}},
		{sample.Return(3), []int{3}, -1, nil},
		{full(api.Const), nil, 20, []int{8}},
		{full(api.Unary), []int{21}, 20, []int{8}},
		{full(api.Binary), []int{21, 22}, 20, []int{8}},
		{full(api.Copy), []int{21}, 20, []int{8}},
		{full(api.Frame), nil, 20, []int{8}},
		{full(api.Load), []int{21}, 20, []int{8}},
		{full(api.Store), []int{21, 22}, -1, []int{8}},
		{full(api.Call), []int{31, 32, 33}, 20, []int{8}},
		{full(api.Getc), nil, 20, []int{8}},
		{full(api.Putc), []int{21}, -1, []int{8}},
		{full(api.Jump), nil, -1, []int{41}},
		{full(api.Branch), []int{21}, -1, []int{41, 42}},
		{full(api.Return), []int{21}, -1, nil},
	} {
		check(t, p)
	}
	for _, kind := range edges() {
		if kind < api.Const || kind > api.Return {
			check(t, parts{full(kind), nil, -1, []int{8}})
			check(t, parts{api.Instr{Kind: kind}, nil, -1, []int{8}})
		}
	}
}

// TestPartsOfAnyNumbers has fields with numbers of any size.
func TestPartsOfAnyNumbers(t *testing.T) {
	for _, n := range edges() {
		i := full(api.Call)
		i.N = n
		check(t, parts{i, i.Args[:min(max(n, 0), 6)], 20, []int{8}})
		i = full(api.Call)
		i.Args[2], i.Dst = n, n
		check(t, parts{i, []int{31, 32, n}, n, []int{8}})
		i = full(api.Store)
		i.A, i.B, i.N = n, -n, n
		check(t, parts{i, []int{n, -n}, -1, []int{8}})
		i = full(api.Branch)
		i.To, i.Else, i.A, i.N = n, -n, n, n
		check(t, parts{i, []int{n}, -1, []int{n, -n}})
		i = full(api.Jump)
		i.To, i.N = n, n
		check(t, parts{i, nil, -1, []int{n}})
		i = full(api.Getc)
		i.Dst, i.N = n, n
		check(t, parts{i, nil, n, []int{8}})
		if n == math.MaxInt {
			continue
		}
		if l := code.Next(full(api.Putc), n); !slices.Equal(l, []int{n + 1}) {
			t.Error("Next at", n, l)
		}
		if l := code.Next(full(api.Branch), n); !slices.Equal(l, []int{41, 42}) {
			t.Error("Next of a Branch at", n, l)
		}
		if l := code.Next(full(api.Return), n); len(l) != 0 {
			t.Error("Next of a Return at", n, l)
		}
	}
	for kind := range 16 {
		code.Next(full(kind), math.MaxInt)
		code.Next(full(kind), math.MinInt)
	}
}

// TestPartsAreNew holds that results share no memory.
func TestPartsAreNew(t *testing.T) {
	for kind := range 15 {
		i := full(kind)
		for _, of := range []func() []int{func() []int { return code.Uses(i) }, func() []int { return code.Next(i, 7) }} {
			first, second := of(), of()
			kept := slices.Clone(second)
			for k := range first[:cap(first)] {
				first[:cap(first)][k] = -9
			}
			if !slices.Equal(second, kept) || !slices.Equal(of(), kept) || i != full(kind) {
				t.Error("memory is shared, of kind", kind)
			}
		}
	}
}

// TestFind has names that are there, are not, and stand twice.
func TestFind(t *testing.T) {
	u := unit(sample.Func("f", 0, 0, 0), sample.Func("main", 0, 0, 0), sample.Func("f", 1, 1, 0), sample.Func("", 0, 0, 0), sample.Func("F f", 0, 0, 0), sample.Func("main", 0, 0, 0))
	u.Globals = []api.Global{{Name: "g", At: 1}}
	for name, k := range map[string]int{"f": 0, "main": 1, "": 3, "F f": 4, "F": -1, "g": -1, "ff": -1, "mai": -1, "main ": -1, "Main": -1, "f\x00": -1} {
		if got := code.Find(u, name); got != k {
			t.Errorf("Find %q: %d; wanted %d", name, got, k)
		}
	}
	for _, name := range []string{"", "main", "f"} {
		if code.Find(api.Unit{}, name) != -1 || code.Find(api.Unit{Funcs: []api.Func{}}, name) != -1 {
			t.Errorf("Find %q of no functions", name)
		}
	}
	var many []api.Func
	for n := range 300 {
		many = append(many, sample.Func("f"+number(n%200), 0, 0, 0))
	}
	for n := range 300 {
		k := n
		if n >= 200 {
			k = -1
		}
		if got := code.Find(unit(many...), "f"+number(n)); got != k {
			t.Errorf("Find of many: %d: %d", n, got)
		}
	}
}
