package mach_test

import (
	"math"
	"slices"
	"testing"

	"doppel/api"
	"doppel/mach"
)

// isRightImage holds whether an image may be: of one that may not, nothing comes.
func isRightImage(t *testing.T, what string, m mach.Image, right bool) {
	t.Helper()
	if mach.Right(m) != right {
		t.Errorf("%s: Right is %v", what, !right)
	}
	if !right {
		want(t, what, mach.Run(m, []byte("a"), 100), spent)
	}
}

// many is so many objects that may be, with names that differ; the first one is main.
func many(n int) []mach.Object {
	l := []mach.Object{object("main 0 0", "putc 0; ret 0")}
	for k := range max(n-1, 0) {
		l = append(l, object("f"+number(k)+" 0 0", "ret 0"))
	}
	return l[:n]
}

// TestImageCount has from no object to too many.
func TestImageCount(t *testing.T) {
	for n, right := range map[int]bool{0: true, 1: true, 2: true, 63: true, 64: true, 65: false, 66: false, 1000: false} {
		isRightImage(t, number(n)+" objects", image(many(n)...), right)
		if n > 0 {
			isRightImage(t, number(n)+" objects, one of which may not be", image(append(many(n-1), mach.Object{})...), false)
		}
	}
	isRightImage(t, "no objects, empty", mach.Image{Objects: []mach.Object{}, Globals: []api.Global{}, Top: 1}, true)
	isRightImage(t, "nothing", mach.Image{}, false)
}

// TestImageNames has two objects of one name, wherever they stand.
func TestImageNames(t *testing.T) {
	for a := range 5 {
		for b := range a {
			l := many(5)
			l[a].Name = l[b].Name
			isRightImage(t, "two of one name", image(l...), false)
			l[a].Name += "_"
			isRightImage(t, "names that differ by a byte", image(l...), true)
		}
	}
	l := many(64)
	l[63].Name = "main"
	isRightImage(t, "two of one name of 64", image(l...), false)
	isRightImage(t, "the same object twice", image(l[0], l[0]), false)
	isRightImage(t, "a global with the name of an object", with(image(l[0]), 2, api.Global{Name: "main", At: 1, Size: 1}), true)
	l = many(3)
	l[1].Name, l[2].Name = "\xff", "\xfe"
	isRightImage(t, "names that differ in bytes that are no text", image(l...), true)
}

// TestImageObjects has one object that may not be, wherever it stands.
func TestImageObjects(t *testing.T) {
	for at := range 4 {
		for what, change := range map[string]func(o *mach.Object){
			"Name": func(o *mach.Object) { o.Name = "a b" }, "Slots": func(o *mach.Object) { o.Slots = -1 }, "Frame": func(o *mach.Object) { o.Frame = 4097 },
			"Lines": func(o *mach.Object) { o.Lines = nil }, "a line": func(o *mach.Object) { o.Lines[0].R = 9 },
		} {
			l := many(4)
			change(&l[at])
			isRightImage(t, what+" of "+number(at), image(l...), false)
		}
	}
}

// TestImageCalls has calls of objects that are there, and of ones that are not.
func TestImageCalls(t *testing.T) {
	f := object("f 0 0", "ret 0")
	caller := object("main 0 0", "putc 0; call f; ret 0")
	isRightImage(t, "a call ahead of what it calls", image(caller, f), true)
	isRightImage(t, "a call behind what it calls", image(f, caller), true)
	isRightImage(t, "a call of itself", image(object("f 0 0", "call f; ret 0")), true)
	isRightImage(t, "no main", image(f), true)
	want(t, "no main", mach.Run(image(f), nil, 9), spent)
	isRightImage(t, "a call, and nothing that it calls", image(caller), false)
	for _, name := range []string{"g", "F", "ff", "f\xff", "\xff", "main_"} {
		broken := object("main 0 0", "putc 0; call f; call "+name+"; ret 0")
		isRightImage(t, "a call of "+name, image(f, broken), false)
		isRightImage(t, "a call of "+name+", ahead of another object", image(broken, f), false)
		isRightImage(t, "a call of "+name+" that is never reached", image(f, object("main 0 0", "ret 0; call "+name+"; ret 0")), false)
		isRightImage(t, "a call of a global", with(image(f, broken), 2, api.Global{Name: name, At: 1, Size: 1}), false)
		isRightImage(t, "a call of "+name+" that is there", image(f, broken, object(name+" 0 0", "ret 0")), true)
	}
	// Any number of arguments may go to any function.
	isRightImage(t, "arguments", image(object("main 0 0", "arg 0 0; arg 0 5; call f; ret 0"), f), true)
}

// TestImageGlobals has Top, and the At, Size and Init of globals, at both ends and beyond.
func TestImageGlobals(t *testing.T) {
	m := alone("putc 0; ret 0")
	global := func(at, size, value int) api.Global { return api.Global{Name: "g", At: at, Size: size, Init: value} }
	for _, top := range edges() {
		right := top >= 1 && top <= 4096
		isRightImage(t, "Top "+number(top), with(m, top), right)
		isRightImage(t, "no object, Top "+number(top), mach.Image{Top: top}, right)
		for _, n := range []int{-1, 0, 1, 2, top - 1, top, top + 1, math.MinInt, math.MaxInt} {
			isRightImage(t, "Top "+number(top)+", At "+number(n), with(m, top, global(n, 0, 0)), right && n >= 1 && n <= top)
			isRightImage(t, "Top "+number(top)+", Size "+number(n), with(m, top, global(1, n, 0)), right && n >= 0 && n <= top-1)
		}
	}
	// No sum of these fits an int, or one only by going round.
	for _, at := range edges() {
		for _, size := range edges() {
			right := at >= 1 && at <= 4096 && size >= 0 && size <= 4096 && at+size <= 4096
			isRightImage(t, "At "+number(at)+", Size "+number(size), with(m, 4096, global(at, size, 0)), right)
		}
		isRightImage(t, "Init "+number(at), with(m, 9, global(1, 1, at)), at >= -1<<31 && at < 1<<31)
		isRightImage(t, "Init "+number(at)+" of no words", with(m, 9, global(1, 0, at)), at >= -1<<31 && at < 1<<31)
	}
	for k := range 4 {
		l := slices.Repeat([]api.Global{global(2, 3, 4)}, 4)
		isRightImage(t, "globals of one name, at one word", with(m, 5, l...), true)
		l[k].Size++
		isRightImage(t, "one of several that is too long", with(m, 5, l...), false)
	}
	isRightImage(t, "no name", with(m, 5, api.Global{At: 1, Size: 4}), true)
}
