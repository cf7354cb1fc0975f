package live_test

import (
	"reflect"
	"testing"

	"doppel/api"
	"doppel/live"
	"doppel/sample"
)

// spoilAll changes what is told of a function, a list at a time, and holds that the lists that are left are as they were.
func spoilAll(t *testing.T, f api.Func) {
	got, want := told(f), told(f)
	for k := range got.ahead {
		sample.Spoil(got.ahead[k], -9)
		got.ahead[k], want.ahead[k] = nil, nil
		sample.Spoil(got.behind[k], -9)
		got.behind[k], want.behind[k] = nil, nil
		if !reflect.DeepEqual(got, want) {
			t.Fatal("lists have memory in common:", show(f))
		}
	}
	sample.Spoil(got.ahead, []int{-9})
	sample.Spoil(got.behind, []int{-9})
	sample.Spoil(got.dead, -9)
	if !reflect.DeepEqual(got.swept, want.swept) {
		t.Fatal("what is swept has memory in common with another result:", show(f))
	}
	sample.Spoil(got.swept.Code, api.Instr{Text: "spoilt"})
}

// TestMemory holds that no argument is changed, and that what is told is in memory of its own.
func TestMemory(t *testing.T) {
	for _, plain := range sample.Mixed(api.Func{}, function(sample.Return(0)), function(sample.Jump(0)), function(sample.Jump(7)), function(dead(), sample.Return(1))) {
		f, again := sample.Roomy(plain), sample.Roomy(plain)
		before := told(plain)
		spoilAll(t, f)
		if !sample.Alike(f, again) {
			t.Fatal("the function is changed:", show(plain))
		}
		holds(t, show(plain)+", afterwards", again, before)
	}
}

// TestSameTwice holds that what is told hangs on the argument alone.
func TestSameTwice(t *testing.T) {
	f := (&sample.Numbers{Seed: 5}).Anyhow(60, 9)
	first := told(f)
	for seed := range 30 {
		told((&sample.Numbers{Seed: uint64(seed)}).Anyhow(40, 12))
		holds(t, "again", f, first)
		// The name makes no difference, but that it is swept's name, too.
		f.Name = "g" + number(seed)
		first.swept.Name = f.Name
	}
	if _, gone := live.Sweep(f); gone != first.gone {
		t.Error("Sweep takes away", gone)
	}
}
