package flow_test

import (
	"reflect"
	"testing"

	"doppel/api"
	"doppel/flow"
	"doppel/sample"
)

// spoilAll changes what is told of a function, a list at a time, and holds that the lists that are left are as they were.
func spoilAll(t *testing.T, f api.Func) {
	t.Helper()
	got, want := told(f), told(f)
	for k := range got.ahead {
		sample.Spoil(got.ahead[k], value{-9, -9})
		got.ahead[k], want.ahead[k] = nil, nil
		if !reflect.DeepEqual(got, want) {
			t.Fatal("lists have memory in common:", show(f))
		}
	}
	sample.Spoil(got.ahead, []value{{-9, -9}})
	sample.Spoil(got.folded.Code, api.Instr{Text: "spoilt"})
}

// TestMemory holds that no argument is changed, and that what is told is in memory of its own.
func TestMemory(t *testing.T) {
	l := []api.Func{{}, function(sample.Return(0)), function(sample.Jump(0)), function(sample.Copy(1, 2), sample.Return(1)), sample.Func("f", 0, 0, 0, sample.Jump(0))}
	l = append(l, sample.Long(16, 4096, sample.Return(0), func(at int) api.Instr { return sample.Copy(0, 1) }))
	for _, plain := range sample.Mixed(l...) {
		f, again := sample.Roomy(plain), sample.Roomy(plain)
		before := told(plain)
		spoilAll(t, f)
		if !sample.Alike(f, again) {
			t.Fatal("the function is changed:", show(plain))
		}
		holds(t, show(plain)+", afterwards", again, before)
	}
}

// TestSameTwice holds that what is told hangs on the argument alone.
func TestSameTwice(t *testing.T) {
	f := smallWords((&sample.Numbers{Seed: 5}).Anyhow(60, 9), &sample.Numbers{})
	first := told(f)
	if first.count == 0 {
		t.Error("nothing is folded")
	}
	for seed := range 30 {
		told((&sample.Numbers{Seed: uint64(seed)}).Anyhow(40, 12))
		holds(t, "again", f, first)
		// The name and the frame make no difference, but that they are those of what is folded, too.
		f.Name, f.Frame = "g"+number(seed), 3+seed
		first.folded.Name, first.folded.Frame = f.Name, f.Frame
	}
	if ahead := flow.Ahead(f); !reflect.DeepEqual(ahead, first.ahead) {
		t.Error("Ahead is", ahead)
	}
}
