package share_test

import (
	"slices"
	"testing"

	"doppel/api"
	"doppel/code"
	"doppel/flow"
	"doppel/live"
	"doppel/sample"
)

// model goes by the words of the chapter: it looks for the longest sequences, and for each register it looks back over all that its run did so far.
type model struct {
	f    api.Func
	done list // what took the place of the instructions so far
	from int  // the first one of the run of the next one
}

type list = []api.Instr

// named tells whether a Jump or a Branch names an instruction.
func (m *model) named(at int) bool {
	return slices.ContainsFunc(m.f.Code, func(i api.Instr) bool {
		return (i.Kind == api.Jump || i.Kind == api.Branch) && i.To == at || i.Kind == api.Branch && i.Else == at
	})
}

// together tells whether the instructions from one to another one may belong to one run.
func (m *model) together(from, to int) bool {
	if from < 0 || to >= len(m.f.Code) {
		return false
	}
	for at := from; at <= to; at++ {
		if at > from && m.named(at) || at < to && m.f.Code[at].Kind >= api.Jump {
			return false
		}
	}
	return true
}

// firsts is where sequences begin that can be made longer at neither end.
func (m *model) firsts() []bool {
	l := make([]bool, len(m.f.Code))
	for from := range l {
		for to := from; to < len(l); to++ {
			if m.together(from, to) && !m.together(from-1, to) && !m.together(from, to+1) {
				l[from] = true
			}
		}
	}
	return l
}

// operands is the registers that an instruction reads.
func operands(i *api.Instr) []*int {
	switch i.Kind {
	case api.Unary, api.Copy, api.Load, api.Putc, api.Branch, api.Return:
		return []*int{&i.A}
	case api.Binary, api.Store:
		return []*int{&i.A, &i.B}
	case api.Call:
		var l []*int
		for k := range i.N {
			l = append(l, &i.Args[k])
		}
		return l
	}
	return nil
}

func reads(i api.Instr, register int) bool {
	return slices.ContainsFunc(operands(&i), func(r *int) bool { return *r == register })
}

func sets(i api.Instr, register int) bool {
	return (i.Kind <= api.Load || i.Kind == api.Call || i.Kind == api.Getc) && i.Dst == register
}

// since tells whether a register was set behind an instruction.
func (m *model) since(at, register int) bool {
	return slices.ContainsFunc(m.done[at+1:], func(i api.Instr) bool { return sets(i, register) })
}

// equals is the register that one equals, if there is one.
func (m *model) equals(register int) (int, bool) {
	for at := m.from; at < len(m.done); at++ {
		if i := m.done[at]; i.Kind == api.Copy && i.Dst == register && i.A != register && !m.since(at, register) && !m.since(at, i.A) {
			return i.A, true
		}
	}
	return 0, false
}

// held tells whether the results of an instruction of such a sort are held.
func held(i api.Instr) bool {
	return i.Kind == api.Frame || i.Kind == api.Unary || i.Kind == api.Binary && i.Op != api.Div && i.Op != api.Rem && i.Op != api.DivU && i.Op != api.RemU
}

// holders is the registers that hold the result of an instruction, the first one first.
func (m *model) holders(i api.Instr) []int {
	var l []int
	for at := m.from; at < len(m.done); at++ {
		d := m.done[at]
		if !held(d) || d.Kind != i.Kind || d.Op != i.Op || d.A != i.A || d.B != i.B || d.N != i.N || reads(d, d.Dst) || m.since(at, d.Dst) {
			continue
		}
		if !slices.ContainsFunc(operands(&d), func(r *int) bool { return m.since(at, *r) }) {
			l = append(l, d.Dst)
		}
	}
	return l
}

// of is Of; count is shown what it does.
func (m *model) of(count func(what string, is bool)) (api.Func, int) {
	firsts, changed := m.firsts(), 0
	m.done = nil
	for at, i := range m.f.Code {
		if firsts[at] {
			m.from = at
		}
		for _, register := range operands(&i) {
			if other, is := m.equals(*register); is {
				*register = other
			}
		}
		count("a register that is replaced", i != m.f.Code[at])
		if l := m.holders(i); len(l) > 0 {
			count("a result that is held, and operands that are replaced", i != m.f.Code[at])
			count("a result in the register that holds it", i.Dst == l[0])
			i = api.Instr{Kind: api.Copy, Dst: i.Dst, A: l[0], Else: -1}
			count("a result that is held", true)
		}
		if i != m.f.Code[at] {
			changed++
		}
		m.done = append(m.done, i)
	}
	f := m.f
	f.Code = m.done
	return f, changed
}

func ignore(string, bool) {}

// all is All.
func (m *model) all() api.Func {
	f := m.f
	for range 20 {
		before := f
		f, _ = (&model{f: f}).of(ignore)
		f, _ = flow.Fold(f)
		f, _ = live.Sweep(f)
		if code.Same(f, before) {
			break
		}
	}
	return f
}

func (m *model) tells(count func(what string, is bool)) all {
	l := all{firsts: m.firsts(), short: m.all()}
	l.shared, l.count = m.of(count)
	return l
}

// few changes the operations of a function, and the registers that they read, to few: more is shared then.
func few(f api.Func, numbers *sample.Numbers) api.Func {
	registers, operations := 1+numbers.Below(f.Regs), 1+numbers.Below(2)
	for at := range f.Code {
		i := &f.Code[at]
		switch i.Kind {
		case api.Unary:
			i.Op = api.Neg + api.Op(numbers.Below(operations))
		case api.Binary:
			i.Op = []api.Op{api.Add, api.Xor, api.Div}[numbers.Below(operations+1)]
		case api.Frame:
			i.N = min(f.Frame, numbers.Below(operations))
		}
		if held(*i) || i.Kind == api.Copy {
			for _, register := range operands(i) {
				*register %= registers
			}
		}
	}
	return f
}

// tally counts what there is in functions.
type tally map[string]int

func (c tally) count(what string, is bool) {
	c[what] += 0
	if is {
		c[what]++
	}
}

// enough holds that there is enough of all.
func (c tally) enough(t *testing.T, least int) {
	t.Helper()
	for what, n := range c {
		if n < least {
			t.Error("too few with", what, n)
		}
	}
}

// TestSmall holds that all is as the chapter says of it, for pseudo-random functions of up to fourteen instructions.
func TestSmall(t *testing.T) {
	seen := tally{}
	for seed := range 30000 {
		numbers := &sample.Numbers{Seed: uint64(seed)}
		f := numbers.Anyhow(1+numbers.Below(14), 1+numbers.Below(6))
		if seed%5 > 0 {
			f = few(f, numbers)
		}
		if !code.RightFunc(f) {
			t.Fatal("not valid:", show(f))
		}
		want := (&model{f: f}).tells(ignore)
		if holds(t, show(f), f, want); t.Failed() {
			t.Fatal("seed", seed)
		}
		seen.count("nothing to share", want.count == 0)
		seen.count("something to share", want.count > 0)
		seen.count("a run in the midst", slices.Contains(want.firsts[1:], true) && slices.Contains(want.firsts, false))
	}
	seen.enough(t, 1000)
}

// straight is a function of one run, of instructions that matter for what is shared.
func straight(many, registers int, numbers *sample.Numbers) api.Func {
	f := sample.Func("f", min(registers, api.MaxParams), registers, 2)
	for len(f.Code) < many-1 {
		kind := []int{api.Copy, api.Copy, api.Copy, api.Unary, api.Binary, api.Frame, 1 + numbers.Below(api.Putc)}[numbers.Below(7)]
		f.Code = append(f.Code, numbers.Instr(f, kind, []int{0, 2, 6}, nil))
	}
	f.Code = append(f.Code, sample.Return(numbers.Below(registers)))
	return few(f, numbers)
}

// TestStraight has longer functions of one run.
func TestStraight(t *testing.T) {
	seen := tally{}
	for seed := range 4000 {
		numbers := &sample.Numbers{Seed: uint64(50_000 + seed)}
		f := straight(5+numbers.Below(40), 2+numbers.Below(8), numbers)
		if holds(t, show(f), f, (&model{f: f}).tells(seen.count)); t.Failed() {
			t.Fatal("seed", seed)
		}
		_, many := rounds(f, 20)
		seen.count("several rounds", many > 1)
	}
	seen.enough(t, 100)
}

// TestMiddling has longer functions with edges.
func TestMiddling(t *testing.T) {
	for seed := range 400 {
		numbers := &sample.Numbers{Seed: uint64(70_000 + seed)}
		f := few(numbers.Anyhow(15+numbers.Below(60), 1+numbers.Below(12)), numbers)
		if holds(t, show(f), f, (&model{f: f}).tells(ignore)); t.Failed() {
			t.Fatal("seed", seed)
		}
	}
}

// every holds all of each valid function of so many instructions of some sorts, with others behind them. It tells how many these are.
func every(t *testing.T, many int, sorts, behind list) (all int) {
	for places := range sample.Rows(many, len(sorts)) {
		f := sample.Func("f", 1, 3, 1)
		for _, n := range places {
			f.Code = append(f.Code, sorts[n])
		}
		f.Code = append(f.Code, behind...)
		if !code.RightFunc(f) {
			continue
		}
		all++
		if holds(t, show(f), f, (&model{f: f}).tells(ignore)); t.Failed() {
			return all
		}
	}
	return all
}

// TestEverySmall has every function of up to three instructions of some sorts, with all edges.
func TestEverySmall(t *testing.T) {
	for many := 1; many <= 3; many++ {
		sorts := sample.Read("return 0; return 1; const 0 1; copy 0 0; copy 0 1; copy 1 0; copy 1 1; neg 0 1; neg 1 0; neg 1 1; add 0 0 1; div 1 0 1; frame 1 1; putc 1; store 0 1")
		for to := range many {
			sorts = append(sorts, sample.Jump(to))
			for otherwise := range many {
				sorts = append(sorts, sample.Branch(otherwise%2, to, otherwise))
			}
		}
		every(t, many, sorts, nil)
	}
}

// TestEveryStraight has every run of four instructions that copy three registers, set them, and set them to results; then all are read.
func TestEveryStraight(t *testing.T) {
	sorts := sample.Read("copy 0 0; copy 0 1; copy 0 2; copy 1 0; copy 1 2; copy 2 0; copy 2 1; getc 0; getc 1; neg 0 0; neg 0 1; neg 1 0; neg 1 1; neg 2 0; neg 2 1; putc 2")
	if all := every(t, 4, sorts, sample.Read("call 0 g 0 1 2; return 0")); all != 1<<16 {
		t.Error("too few:", all)
	}
}
