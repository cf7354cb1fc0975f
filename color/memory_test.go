package color_test

import (
	"reflect"
	"slices"
	"testing"

	"doppel/api"
	"doppel/color"
	"doppel/sample"
)

// spoilAll changes what is told of a function, a list at a time, and holds that the lists that are left are as they were.
func spoilAll(t *testing.T, f api.Func) {
	t.Helper()
	got, want := told(f), told(f)
	left := func() {
		if !reflect.DeepEqual(got, want) {
			t.Fatal("lists have memory in common:", show(f))
		}
	}
	for k := range got.meet {
		sample.Spoil(got.meet[k], -9)
		got.meet[k], want.meet[k] = nil, nil
		left()
	}
	sample.Spoil(got.meet, []int{-9})
	got.meet, want.meet = nil, nil
	left()
	for k := range sample.Whole(got.waits) {
		sample.Whole(got.waits)[k] = !sample.Whole(got.waits)[k]
	}
	got.waits, want.waits = nil, nil
	left()
	sample.Spoil(got.weights, -9)
	got.weights, want.weights = nil, nil
	left()
	sample.Spoil(got.places, -9)
}

// TestMemory holds that no argument is changed, and that what is told is in memory of its own.
func TestMemory(t *testing.T) {
	for _, plain := range sample.Mixed(api.Func{}, sample.Func("f", 0, 0, 0, sample.Jump(0)), sample.Func("f", 6, 9, 0, sample.Return(0)), together(40, 3), together(9, 9)) {
		f, again := sample.Roomy(plain), sample.Roomy(plain)
		before := told(plain)
		spoilAll(t, f)
		if !sample.Alike(f, again) {
			t.Fatal("the function is changed:", show(plain))
		}
		holds(t, show(plain)+", afterwards", again, before)
	}
}

// TestPlacesStay holds that Fine and Slots do not change the places that they are asked of, nor the function.
func TestPlacesStay(t *testing.T) {
	for _, plain := range sample.Mixed(together(40, 3), together(9, 9)) {
		f, again := sample.Roomy(plain), sample.Roomy(plain)
		own := color.Of(plain)
		for _, l := range [][]int{own, slices.Repeat([]int{7}, len(own)), {3, -1, 6}} {
			roomy := append(append(make([]int, 0, len(l)+3), l...), 11, 12, 13)[:len(l)]
			before := slices.Clone(sample.Whole(roomy))
			is, slots := color.Fine(f, roomy), color.Slots(roomy)
			if !slices.Equal(sample.Whole(roomy), before) || !sample.Alike(f, again) {
				t.Fatal("an argument is changed:", show(plain))
			}
			if color.Fine(f, roomy) != is || color.Slots(roomy) != slots {
				t.Fatal("not the same twice:", show(plain))
			}
		}
	}
}

// TestSameTwice holds that what is told hangs on the argument alone.
func TestSameTwice(t *testing.T) {
	f := (&sample.Numbers{Seed: 5}).Anyhow(60, 12)
	first := told(f)
	for seed := range 30 {
		told((&sample.Numbers{Seed: uint64(seed)}).Anyhow(40, 12))
		holds(t, "again", f, first)
		// The name and the frame make no difference.
		f.Name, f.Frame = "g"+number(seed), 3+seed
	}
}
