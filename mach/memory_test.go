package mach_test

import (
	"slices"
	"testing"

	"doppel/api"
	"doppel/mach"
	"doppel/sample"
)

// roomyObject is an object with room behind its lines, all of which has a mark.
func roomyObject(o mach.Object) mach.Object {
	lines := make([]mach.Line, len(o.Lines)+4)
	sample.Spoil(lines, mach.Line{Text: "mark"})
	copy(lines, o.Lines)
	o.Lines = lines[:len(o.Lines)]
	return o
}

// roomy is an image with room behind each of its lists.
func roomy(m mach.Image) mach.Image {
	objects := make([]mach.Object, len(m.Objects), len(m.Objects)+3)
	for k, o := range m.Objects {
		objects[k] = roomyObject(o)
	}
	for k := range 3 {
		objects[:cap(objects)][len(objects)+k] = mach.Object{Name: "mark"}
	}
	globals := make([]api.Global, len(m.Globals)+3)
	sample.Spoil(globals, api.Global{Name: "mark"})
	copy(globals, m.Globals)
	m.Objects, m.Globals = objects, globals[:len(m.Globals)]
	return m
}

// alikeObjects tells whether objects are the same, also in the room behind their lines.
func alikeObjects(a, b mach.Object) bool {
	return same(a, b) && slices.Equal(sample.Whole(a.Lines), sample.Whole(b.Lines))
}

// alike tells whether images are the same, also in the room behind their lists.
func alike(a, b mach.Image) bool {
	return a.Top == b.Top && len(a.Objects) == len(b.Objects) && slices.EqualFunc(sample.Whole(a.Objects), sample.Whole(b.Objects), alikeObjects) && slices.Equal(a.Globals, b.Globals) && slices.Equal(sample.Whole(a.Globals), sample.Whole(b.Globals))
}

// images is images of all sorts, also ones that may not be.
func images() []mach.Image {
	l := []mach.Image{{}, {Top: 1}, image(many(65)...), image(many(64)...), alone("ret 8"), image(object("main 3 5", broad), object("g 0 0", "ret 0")), with(alone("ret 0"), 3, api.Global{At: 4})}
	for seed := range 300 {
		l = append(l, imageOf(30_000+seed))
	}
	return l
}

// TestNothingIsChanged holds that no call changes an argument, or what lies behind it.
func TestNothingIsChanged(t *testing.T) {
	for k, plain := range images() {
		m, again := roomy(plain), roomy(plain)
		spare := []byte("ab\x00\xffrest")
		mach.Right(m)
		mach.Run(m, spare[:4], 500)
		for k, o := range m.Objects {
			mach.RightObject(o)
			mach.Print(o)
			mach.Same(o, m.Objects[0])
			mach.Same(o, again.Objects[k])
		}
		if !alike(m, again) || string(spare) != "ab\x00\xffrest" {
			t.Fatal("an argument is changed:", k)
		}
	}
}

// TestNothingIsShared changes arguments and results, and looks at others.
func TestNothingIsShared(t *testing.T) {
	m := with(image(object("main 0 1", "getc 0; putc 0; getc 0; putc 0; li 1 1; ld 2 1; ret 2")), 3, api.Global{At: 1, Init: 5})
	input := []byte("abcd")
	first, second := mach.Run(m, input, plenty), mach.Run(m, input, plenty)
	sample.Spoil(first.Output, 'y')
	sample.Spoil(input, 'x')
	want(t, "the second of two runs", second, result(api.Exit, 5, "ab"))
	want(t, "a later run", mach.Run(m, []byte("cd"), plenty), result(api.Exit, 5, "cd"))
	text := mach.Print(object("f 3 5", broad))
	one, _, _ := mach.Read(text)
	two, _, _ := mach.Read(text)
	sample.Spoil(one.Lines, mach.Line{Text: "spoilt"})
	three, _, _ := mach.Read(text)
	if !same(two, object("f 3 5", broad)) || !same(three, two) || mach.Print(two) != text {
		t.Error("what is read has memory in common")
	}
	// What an object became when it was changed is asked anew.
	o := object("f 3 5", broad)
	before := mach.Print(o)
	sample.Spoil(o.Lines, mach.Line{})
	if mach.RightObject(o) || mach.Print(o) != "" || before != text {
		t.Error("an object is kept")
	}
}

// TestSameTwice holds that results hang on the arguments alone, and not on the order of objects.
func TestSameTwice(t *testing.T) {
	for seed := range 300 {
		m := imageOf(70_000 + seed)
		first := mach.Run(m, []byte("ab"), 500)
		other := roomy(m)
		mach.Run(imageOf(seed), []byte("x"), 500)
		want(t, number(seed), mach.Run(other, append(make([]byte, 0, 9), "ab"...), 500), first)
		for range len(other.Objects) {
			other.Objects = append(slices.Clone(other.Objects[1:]), other.Objects[0])
			want(t, number(seed)+", in another order", mach.Run(other, []byte("ab"), 500), first)
		}
		slices.Reverse(other.Objects)
		want(t, number(seed)+", turned round", mach.Run(other, []byte("ab"), 500), first)
		// The names of globals make no difference.
		for k := range other.Globals {
			other.Globals[k].Name, other.Globals[k].Size = "g"+number(k), 0
		}
		want(t, number(seed)+", with other names and sizes", mach.Run(other, []byte("ab"), 500), first)
		if !mach.Right(m) || !mach.Right(other) {
			t.Error("not valid:", seed)
		}
	}
}
