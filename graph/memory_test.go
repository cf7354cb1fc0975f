package graph_test

import (
	"math/rand"
	"reflect"
	"testing"

	"doppel/api"
	"doppel/sample"
)

// spoilAll changes what is told, a result at a time, and holds that all others are as they were.
func spoilAll(t *testing.T, f api.Func) {
	got, want := told(f), told(f)
	for k := range got.before {
		sample.Spoil(got.before[k], -9)
		got.before[k], want.before[k] = nil, nil
		if !reflect.DeepEqual(got, want) {
			t.Fatal("Before has memory in common:", show(f))
		}
	}
	sample.Spoil(got.before, []int{-9})
	sample.Spoil(got.order, -9)
	sample.Spoil(got.above, -9)
	sample.Spoil(got.heads, -9)
	for head := range got.loops {
		sample.Spoil(got.loops[head], -9)
		delete(got.loops, head)
		for other := range got.loops {
			same(t, show(f)+": Loop", got.loops[other], want.loops[other])
		}
	}
	same(t, show(f)+": Reached", got.reached, want.reached)
	for k := range sample.Whole(got.reached) {
		sample.Whole(got.reached)[k] = !sample.Whole(got.reached)[k]
	}
}

// TestMemory holds that no argument is changed, and that what is told is in memory of its own.
func TestMemory(t *testing.T) {
	l := []api.Func{drawn("r"), drawn("j0"), drawn("b1,2 j0 r"), drawn("b1,5 b2,4 . j1 j0 r . j6"), drawn("j9"), {}}
	for seed := range 200 {
		random := rand.New(rand.NewSource(int64(seed)))
		l = append(l, anyOf(random, 1+random.Intn(20)))
	}
	for _, plain := range l {
		f := sample.Roomy(plain)
		before := told(plain)
		spoilAll(t, f)
		if again := sample.Roomy(plain); !reflect.DeepEqual(sample.Whole(f.Code), sample.Whole(again.Code)) || f.Name != again.Name || f.Params != again.Params || f.Regs != again.Regs || f.Frame != again.Frame {
			t.Fatal("the function is changed: ", show(plain))
		}
		holds(t, show(plain)+", afterwards", f, before)
	}
}

// TestSameTwice holds that what is told hangs on the argument alone.
func TestSameTwice(t *testing.T) {
	f := anyOf(rand.New(rand.NewSource(1)), 40)
	first := told(f)
	for seed := range 20 {
		told(anyOf(rand.New(rand.NewSource(int64(seed))), 30))
		holds(t, "again", f, first)
		// The name and what the instructions compute make no difference.
		f.Name = "g" + number(seed)
		for at := range f.Code {
			if f.Code[at].Kind < api.Jump {
				f.Code[at] = straight()[(at+seed)%10]
			}
		}
	}
}
