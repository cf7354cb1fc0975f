package color_test

import (
	"slices"
	"testing"

	"doppel/api"
	"doppel/code"
	"doppel/color"
	"doppel/sample"
)

// model tells of a valid function what the chapters say, word by word.
type model struct{ f api.Func }

// leads tells whether there is a path from one instruction to another one that leaves one out.
func (m model) leads(from, to, without int) bool {
	l := []int{from}
	for k := 0; k < len(l); k++ {
		if l[k] == without {
			continue
		}
		if l[k] == to {
			return true
		}
		for _, next := range code.Next(m.f.Code[l[k]], l[k]) {
			if !slices.Contains(l, next) {
				l = append(l, next)
			}
		}
	}
	return false
}

func (m model) dominates(a, b int) bool {
	return m.leads(0, a, -1) && m.leads(0, b, -1) && !m.leads(0, b, a)
}

// inLoop tells whether an instruction is in the loop of a head, if it is one.
func (m model) inLoop(head, at int) bool {
	for source, i := range m.f.Code {
		if !slices.Contains(code.Next(i, source), head) || !m.dominates(head, source) {
			continue
		}
		if at == head || m.leads(0, at, -1) && m.leads(at, source, head) {
			return true
		}
	}
	return false
}

// live tells whether a register is live behind an instruction: one that reads it is found by a path of others that do not set it.
func (m model) live(at, register int) bool {
	open := slices.Clone(code.Next(m.f.Code[at], at))
	for k := 0; k < len(open); k++ {
		i := m.f.Code[open[k]]
		if slices.Contains(code.Uses(i), register) {
			return true
		}
		if code.Sets(i) == register {
			continue
		}
		for _, next := range code.Next(i, open[k]) {
			if !slices.Contains(open, next) {
				open = append(open, next)
			}
		}
	}
	return false
}

func (m model) liveAtFirst(register int) bool {
	first := m.f.Code[0]
	return slices.Contains(code.Uses(first), register) || code.Sets(first) != register && m.live(0, register)
}

// sets tells whether one register is set where another one is live behind, and not as a Copy of it.
func (m model) sets(one, other int) bool {
	for at, i := range m.f.Code {
		isCopy := i.Kind == api.Copy && i.A == other
		if code.Sets(i) == one && m.live(at, other) && !isCopy {
			return true
		}
	}
	return false
}

func (m model) conflict(a, b int) bool {
	if a == b {
		return false
	}
	return m.sets(a, b) || m.sets(b, a) || m.liveAtFirst(a) && m.liveAtFirst(b) || max(a, b) < m.f.Params
}

func (m model) kept(register int) bool {
	for at, i := range m.f.Code {
		if i.Kind == api.Call && i.Dst != register && m.live(at, register) {
			return true
		}
	}
	return false
}

// weight is how often a register is named, and in how many loops, each time that it is.
func (m model) weight(register int) (names, loops int) {
	for at, i := range m.f.Code {
		here := 0
		for _, one := range append(code.Uses(i), code.Sets(i)) {
			if one == register {
				here++
			}
		}
		names += here
		for head := range m.f.Code {
			if m.inLoop(head, at) {
				loops += here
			}
		}
	}
	return names, loops
}

func (m model) tells() all {
	var l all
	for a := range m.f.Regs {
		var meet []int
		for b := range m.f.Regs {
			if m.conflict(a, b) {
				meet = append(meet, b)
			}
		}
		names, loops := m.weight(a)
		l.meet, l.waits = append(l.meet, meet), append(l.waits, m.kept(a))
		l.weights = append(l.weights, complex(float64(names), float64(loops)))
	}
	l.choose()
	return l
}

// choose gives one register after another the lowest place that it may have: of those that have none, the first one of those that are heaviest.
func (l *all) choose() {
	light := func(register int) float64 { return real(l.weights[register]) + 8*imag(l.weights[register]) }
	l.places = slices.Repeat([]int{-1}, len(l.weights))
	for range l.places {
		next := -1
		for register, place := range l.places {
			if place < 0 && (next < 0 || light(register) > light(next)) {
				next = register
			}
		}
		place := 0
		for !l.mayHave(next, place) {
			place++
		}
		l.places[next] = place
	}
}

func (l *all) mayHave(register, place int) bool {
	return (place > 5 || !l.waits[register]) && !slices.ContainsFunc(l.meet[register], func(other int) bool { return l.places[other] == place })
}

// fine tells whether places are, by what the model has told.
func (l *all) fine(places []int) bool {
	if len(places) != len(l.waits) || len(places) > 0 && slices.Min(places) < 0 {
		return false
	}
	for a, meet := range l.meet {
		if l.waits[a] && places[a] < 6 {
			return false
		}
		for _, b := range meet {
			if places[a] == places[b] {
				return false
			}
		}
	}
	return true
}

// agrees holds that the package tells of a function what the model does.
func agrees(t *testing.T, f api.Func) all {
	t.Helper()
	if !code.RightFunc(f) {
		t.Fatal("not valid:", show(f))
	}
	want := model{f}.tells()
	holds(t, show(f), f, want)
	isMutual(t, show(f), color.Meet(f))
	return want
}

// tryPlaces holds Fine of places that Of does not tell, and counts what it says of them.
func tryPlaces(t *testing.T, f api.Func, l all, numbers *sample.Numbers, seen map[string]int) {
	t.Helper()
	for range 8 {
		places := slices.Clone(l.places)
		for range 1 + numbers.Below(3) {
			places[numbers.Below(len(places))] = []int{-1, 0, 1, 2, 5, 6, 7, 8}[numbers.Below(8)]
		}
		if numbers.Below(10) == 0 {
			places = append(places, 9)
		}
		is := l.fine(places)
		if color.Fine(f, places) != is {
			t.Errorf("%s: Fine of %v is %v", show(f), places, !is)
		}
		if is {
			seen["places that are fine"]++
		} else {
			seen["places that are not"]++
		}
	}
}

// count counts what of a function makes a difference.
func count(f api.Func, l all, seen map[string]int) {
	seen["several kept"] += min(len(slices.DeleteFunc(slices.Clone(l.waits), func(is bool) bool { return !is }))/2, 1)
	for a, w := range l.weights {
		if imag(w) > real(w) {
			seen["weight in several loops"]++
		}
		for b := range a {
			if !slices.Contains(l.meet[a], b) {
				seen["no conflict"]++
			} else if max(a, b) < f.Params {
				seen["parameters"]++
			} else {
				seen["conflict"]++
			}
			if l.weights[a] == l.weights[b] {
				seen["equal weights"]++
			}
		}
		place := l.places[a]
		if place > 5 && !l.waits[a] {
			seen["slots for ones that are not kept"]++
		}
		if slices.ContainsFunc(l.meet[a], func(b int) bool { return l.places[b] > place && !l.waits[b] }) && place > 0 {
			seen["places between"]++
		}
	}
}

// TestSmall holds that all is as the chapters say of it, for pseudo-random functions of up to twelve instructions.
func TestSmall(t *testing.T) {
	seen := map[string]int{}
	for seed := range 6000 {
		numbers := &sample.Numbers{Seed: uint64(seed)}
		f := numbers.Anyhow(1+numbers.Below(12), 1+numbers.Below(6))
		l := agrees(t, f)
		if tryPlaces(t, f, l, numbers, seen); t.Failed() {
			t.Fatal("seed", seed)
		}
		count(f, l, seen)
	}
	for _, what := range []string{"several kept", "weight in several loops", "no conflict", "parameters", "conflict", "equal weights", "places between", "places that are fine", "places that are not"} {
		if seen[what] < 300 {
			t.Error("too few with", what, seen[what])
		}
	}
}

// TestMiddling has longer functions, with more registers than a machine has, and the functions of units.
func TestMiddling(t *testing.T) {
	seen := map[string]int{}
	for seed := range 300 {
		numbers := &sample.Numbers{Seed: uint64(50_000 + seed)}
		f := numbers.Anyhow(13+numbers.Below(40), 1+numbers.Below(20))
		l := agrees(t, f)
		tryPlaces(t, f, l, numbers, seen)
		count(f, l, seen)
		for _, f := range sample.Unit(seed).Funcs {
			l := agrees(t, f)
			tryPlaces(t, f, l, numbers, seen)
			count(f, l, seen)
		}
		if t.Failed() {
			t.Fatal("seed", seed)
		}
	}
	for _, what := range []string{"several kept", "weight in several loops", "equal weights", "places between", "slots for ones that are not kept"} {
		if seen[what] < 100 {
			t.Error("too few with", what, seen[what])
		}
	}
}

// TestEverySmall has every function of up to three instructions of some sorts, with some numbers of parameters.
func TestEverySmall(t *testing.T) {
	for many := 1; many <= 3; many++ {
		sorts := sample.Read("return 0; return 1; const 0 1; const 1 1; copy 0 0; copy 0 1; copy 1 0; putc 1; add 1 0 1; call 0 g 1; call 1 g 0 0; call -1 g; call -1 g 1")
		for to := range many {
			sorts = append(sorts, sample.Jump(to))
			for otherwise := range many {
				sorts = append(sorts, sample.Branch(otherwise%2, to, otherwise))
			}
		}
		for row := range sample.Rows(many, len(sorts)) {
			for _, params := range []int{0, 2, 3} {
				f := sample.Func("f", params, 3, 0)
				for _, n := range row {
					f.Code = append(f.Code, sorts[n])
				}
				if code.RightFunc(f) && !t.Failed() {
					agrees(t, f)
				}
			}
		}
	}
}
