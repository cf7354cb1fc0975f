package lower_test

import (
	"reflect"
	"testing"

	"doppel/api"
	"doppel/code"
	"doppel/core"
	"doppel/lower"
)

// spare is a list with more room behind it, all of which has a mark.
func spare[T any](l []T, mark T) []T {
	more := make([]T, len(l)+3)
	for k := range more {
		more[k] = mark
	}
	copy(more, l)
	return more[:len(l)]
}

// whole is a list with the room behind it.
func whole[T any](l []T) []T { return l[:cap(l)] }

// roomy is a program whose lists have more room behind them.
func roomy(t *testing.T) core.Program {
	p := made(t, broad).program
	p.Funcs = spare(p.Funcs, core.Func{Name: "mark"})
	p.Globals = spare(p.Globals, api.Global{Name: "mark"})
	p.Nodes = spare(p.Nodes, api.Node{Text: "mark"})
	return p
}

// untouched holds that a program is as it was, with the room behind its lists.
func untouched(t *testing.T, what string, p core.Program) {
	t.Helper()
	q := roomy(t)
	if !reflect.DeepEqual(whole(p.Funcs), whole(q.Funcs)) || !reflect.DeepEqual(whole(p.Globals), whole(q.Globals)) || !reflect.DeepEqual(whole(p.Nodes), whole(q.Nodes)) || p.Top != q.Top {
		t.Error(what + ": the program is changed")
	}
}

// spoil changes all that a unit has, with the room behind its lists.
func spoil(u api.Unit) {
	for k := range u.Funcs {
		for n := range whole(u.Funcs[k].Code) {
			whole(u.Funcs[k].Code)[n] = api.Instr{Kind: 99, Text: "spoiled"}
		}
	}
	for k := range whole(u.Funcs) {
		whole(u.Funcs)[k] = api.Func{Name: "spoiled"}
	}
	for k := range whole(u.Globals) {
		whole(u.Globals)[k] = api.Global{Name: "spoiled"}
	}
}

// TestMemory holds that no argument is changed, and that what is returned is in memory of its own.
func TestMemory(t *testing.T) {
	p, want := roomy(t), made(t, broad).unit
	for range 2 {
		u, errno := lower.Of(p)
		if errno != api.OK || !alike(u, want) {
			t.Fatal("Of: another unit", errno)
		}
		untouched(t, "Of", p)
		v, _ := lower.Of(p)
		spoil(u)
		untouched(t, "what Of has returned", p)
		if !alike(v, want) {
			t.Fatal("Of: one unit is changed by another one")
		}
		w, _, _ := lower.Read(broad)
		spoil(w)
		for k, f := range want.Funcs {
			g, errno := lower.Func(p, k)
			if errno != api.OK || !code.Same(f, g) {
				t.Fatal("Func: another function", errno)
			}
			h, _ := lower.Func(p, k)
			spoil(api.Unit{Funcs: []api.Func{g}})
			untouched(t, "what Func has returned", p)
			if !code.Same(f, h) || !code.Same(v.Funcs[k], f) {
				t.Fatal("Func: one function is changed by another one")
			}
		}
		// Each list has room of its own.
		for k := range v.Funcs {
			clear(v.Funcs[k].Code[len(v.Funcs[k].Code):cap(v.Funcs[k].Code)])
			_ = append(v.Funcs[k].Code, api.Instr{Kind: 77})
		}
		_ = append(v.Globals, api.Global{Name: "more"})
		_ = append(v.Funcs, api.Func{Name: "more"})
		if !alike(v, want) {
			t.Fatal("one list of a unit reaches into another one")
		}
	}
}

// TestMemoryWithErrors holds that a program that is too long is not changed, either, and that it has no part of a unit.
func TestMemoryWithErrors(t *testing.T) {
	source := "int g=4;int f(){return 1;}int main(){return " + sum(2049) + ";}"
	p, _, _ := core.Read(source)
	q, _, _ := core.Read(source)
	for range 2 {
		long(t, "main", source, 1)
		if u, errno := lower.Of(p); errno != api.ErrLong || !empty(u) || cap(u.Funcs)+cap(u.Globals) > 0 {
			t.Error(errno, u)
		}
		if f, errno := lower.Func(p, 0); errno != api.OK || f.Name != "f" {
			t.Error(errno, f)
		}
		if !reflect.DeepEqual(p, q) {
			t.Error("the program is changed")
		}
	}
}
