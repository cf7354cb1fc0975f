package share_test

import (
	"reflect"
	"testing"

	"doppel/api"
	"doppel/sample"
)

// spoilAll changes what is told of a function, a list at a time, and holds that the lists that are left are as they were.
func spoilAll(t *testing.T, f api.Func) {
	t.Helper()
	got, want := told(f), told(f)
	left := func() {
		if !reflect.DeepEqual(got, want) {
			t.Fatal("lists have memory in common:", show(f))
		}
	}
	sample.Spoil(got.firsts, false)
	sample.Spoil(got.firsts, true)
	got.firsts, want.firsts = nil, nil
	left()
	sample.Spoil(got.shared.Code, api.Instr{Text: "spoilt"})
	got.shared, want.shared = api.Func{}, api.Func{}
	left()
	sample.Spoil(got.short.Code, api.Instr{Text: "spoilt"})
}

// TestMemory holds that no argument is changed, and that what is told is in memory of its own.
func TestMemory(t *testing.T) {
	l := []api.Func{{}, read("return 0"), read("jump 0"), read("copy 2 0; neg 3 2; neg 4 2; return 4"), read("const 2 5; return 0"), sample.Func("f", 0, 0, 0, sample.Jump(0)), shift(30)}
	for seed := range 300 {
		numbers := &sample.Numbers{Seed: uint64(seed)}
		l = append(l, straight(3+numbers.Below(20), 1+numbers.Below(9), numbers))
	}
	for _, plain := range sample.Mixed(l...) {
		f, again := sample.Roomy(plain), sample.Roomy(plain)
		before := told(plain)
		spoilAll(t, f)
		if !sample.Alike(f, again) {
			t.Fatal("the function is changed:", show(plain))
		}
		holds(t, show(plain)+", afterwards", again, before)
	}
}

// TestSameTwice holds that what is told hangs on the argument alone.
func TestSameTwice(t *testing.T) {
	f := straight(80, 9, &sample.Numbers{Seed: 5})
	first := told(f)
	if first.count < 5 {
		t.Error("too little is shared:", first.count)
	}
	for seed := range 30 {
		told((&sample.Numbers{Seed: uint64(seed)}).Anyhow(40, 12))
		holds(t, "again", f, first)
		// The name and the frame make no difference, but that they are those of what is told, too.
		f.Name, f.Frame = "g"+number(seed), 3+seed
		first.shared.Name, first.shared.Frame, first.short.Name, first.short.Frame = f.Name, f.Frame, f.Name, f.Frame
	}
}
