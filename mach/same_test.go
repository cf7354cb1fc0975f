package mach_test

import (
	"math"
	"slices"
	"strings"
	"testing"

	"doppel/mach"
)

// others is objects that differ from one in one thing each, by what that is.
func others(o mach.Object) map[string]mach.Object {
	l := map[string]mach.Object{}
	set := func(what string, change func(o *mach.Object)) {
		other := copyOf(o)
		change(&other)
		l[what] = other
	}
	for _, by := range []int{1, -1, 10, 1 << 32, math.MinInt} {
		set("Slots "+number(by), func(o *mach.Object) { o.Slots += by })
		set("Frame "+number(by), func(o *mach.Object) { o.Frame += by })
		for k := range o.Lines {
			what := " of " + number(k) + " " + number(by)
			set("Op"+what, func(o *mach.Object) { o.Lines[k].Op += by })
			set("R"+what, func(o *mach.Object) { o.Lines[k].R += by })
			set("A"+what, func(o *mach.Object) { o.Lines[k].A += by })
			set("B"+what, func(o *mach.Object) { o.Lines[k].B += by })
			set("N"+what, func(o *mach.Object) { o.Lines[k].N += by })
		}
	}
	for _, by := range []string{"x", " ", "\n", "\x00", "\xff"} {
		set("Name and "+by, func(o *mach.Object) { o.Name += by })
		for k := range o.Lines {
			set("Text and "+by+" of "+number(k), func(o *mach.Object) { o.Lines[k].Text += by })
		}
	}
	for k := range o.Lines {
		set("without "+number(k), func(o *mach.Object) { o.Lines = slices.Delete(o.Lines, k, k+1) })
		set("another one at "+number(k), func(o *mach.Object) { o.Lines = slices.Insert(o.Lines, k, mach.Line{}) })
	}
	set("another one at the end", func(o *mach.Object) { o.Lines = append(o.Lines, mach.Line{}) })
	return l
}

// TestOthers has objects that differ in one thing each: they are not the same, and have other texts, if they have any.
func TestOthers(t *testing.T) {
	for _, o := range []mach.Object{{}, object("f 3 5", broad), object("f 3 5", "li 0 1; li 0 1; li 1 1; ret 0"), {Name: " ", Slots: -1, Lines: make([]mach.Line, 2)}} {
		text := mach.Print(o)
		for what, other := range others(o) {
			if is := same(o, other); mach.Same(o, other) != is || mach.Same(other, o) != is {
				t.Errorf("%s: Same is %v", what, !is)
			}
			if text != "" && text == mach.Print(other) && !same(o, other) {
				t.Errorf("%s: the same texts", what)
			}
		}
	}
	o := object("f 3 5", broad)
	for what, other := range others(o) {
		if mach.Same(o, other) || mach.Same(other, o) {
			t.Errorf("the same: %s", what)
		}
	}
}

// TestSame has objects that are the same, in memory of their own.
func TestSame(t *testing.T) {
	for _, o := range []mach.Object{{}, object("f 3 5", broad), {Name: "\x00", Slots: math.MinInt, Frame: math.MaxInt, Lines: make([]mach.Line, 3)}, {Name: "long", Lines: make([]mach.Line, 70_000)}} {
		other := copyOf(o)
		other.Lines = slices.Grow(other.Lines, 100)
		other.Name = strings.Clone(o.Name)
		if !mach.Same(o, o) || !mach.Same(o, other) || !mach.Same(other, o) {
			t.Error("not the same:", o.Name)
		}
	}
	a, b := mach.Object{Name: "f", Lines: nil}, mach.Object{Name: "f", Lines: []mach.Line{}}
	if !mach.Same(a, b) || !mach.Same(b, a) {
		t.Error("no lines, nil and empty")
	}
}
