package mach_test

import (
	"slices"
	"strings"
	"testing"
	"time"

	"doppel/api"
	"doppel/mach"
)

// inTime holds that something is done within seconds. (Each takes far less than one; there is much room for a slow machine.)
func inTime(t *testing.T, what string, do func()) {
	t.Helper()
	begin := time.Now()
	do()
	if took := time.Since(begin); took > 30*time.Second {
		t.Error(what+": it took", took)
	}
}

// full is an object of as many lines as there may be, which does them all.
func full(name, lines string) mach.Object {
	o := object(name+" 4096 5", lines)
	n := len(o.Lines)
	o.Lines = append(slices.Repeat(o.Lines, (1<<16-1)/n), slices.Repeat([]mach.Line{line("li 0 0")}, (1<<16-1)%n)...)
	o.Lines = append(o.Lines, line("ret 7"))
	return o
}

// TestLongObjects has objects of 2^16 lines: each is right, and is read again as it was printed.
func TestLongObjects(t *testing.T) {
	for _, lines := range []string{"li 0 -2147483648", "bin 1 2 3 shru; un 1 2 zero", "lds 0 4095; sts 0 4095", "call " + strings.Repeat("x", 200), broad[:len(broad)-len("; jmp 17; bnz 7 0; ret 2")]} {
		o := full("main", lines)
		inTime(t, lines, func() {
			if len(o.Lines) != 1<<16 || !mach.RightObject(o) || !mach.Same(o, copyOf(o)) {
				t.Errorf("not valid, or not the same: %.100s", lines)
			}
			reads(t, mach.Print(o), o)
		})
	}
}

// TestLongImages has as many objects as there may be, with as many lines each, that call one another.
func TestLongImages(t *testing.T) {
	lines := full("x", "call main; call fz; call fzz; call fzzz").Lines
	l := []mach.Object{{Name: "main", Slots: 1, Lines: lines}}
	for k := range 63 {
		l = append(l, mach.Object{Name: "f" + strings.Repeat("z", k+1), Slots: 4096, Lines: lines})
	}
	inTime(t, "an image", func() {
		comes(t, "calls of all others", image(l...), "", result(api.Full, 0, ""))
		l[63].Lines = slices.Clone(l[63].Lines)
		l[63].Lines[65000].Text = "none"
		isRightImage(t, "a call of none", image(l...), false)
	})
}

// TestLongRuns has runs that use all of the fuel.
func TestLongRuns(t *testing.T) {
	name := strings.Repeat("long", 250_000)
	for what, c := range map[string]struct {
		m mach.Image
		r api.Result
	}{
		"a loop":                {alone("jmp 0"), spent},
		"operations":            {alone("li 1 1; bin 0 0 1 add; bin 2 0 1 mul; un 3 2 not; jmp 1"), spent},
		"calls":                 {image(object("main 0 0", "call f; jmp 0"), object("f 0 0", "ret 0")), spent},
		"calls of a long name":  {image(object("main 0 0", "call "+name+"; jmp 0"), object(name+" 0 0", "ret 0")), spent},
		"calls with many slots": {image(object("main 0 0", "call f; jmp 0"), object("f 4096 0", "sts 0 4095; ret 0")), spent},
		"calls in calls":        {image(object("main 0 0", "call f; jmp 0"), object("f 4096 20", "li 1 1; sts 1 4095; bin 2 2 1 add; li 3 150; bin 4 2 3 lt; bnz 4 8; li 2 0; ret 0; call f; ret 0")), spent},
		"output":                {alone("putc 0; jmp 0"), result(api.Spent, 0, strings.Repeat("\x00", 500_000))},
		"arguments":             {image(object("main 0 0", "arg 0 0; arg 0 5; call f; jmp 0"), object("f 0 0", "par 0 0; par 0 5; ret 0")), spent},
	} {
		inTime(t, what, func() { comes(t, what, c.m, "", c.r) })
	}
	// b(n) calls itself more than twice as often as b(n - 1).
	b := object("b 1 0", "par 0 0; bnz 0 3; ret 0; li 1 1; bin 0 0 1 sub; sts 0 0; arg 0 0; call b; lds 0 0; arg 0 0; call b; ret 0")
	inTime(t, "a tree of calls", func() {
		comes(t, "a tree of calls", image(object("main 0 0", "li 0 15; arg 0 0; call b; res 0; ret 0"), b), "", exit(0))
	})
	inTime(t, "long input", func() {
		// Each byte takes five lines.
		text := strings.Repeat("some text ", 19_999)
		comes(t, "long input", alone("li 1 1; getc 0; bin 2 0 1 add; bnz 2 5; ret 2; putc 0; jmp 1"), text, result(api.Exit, 0, text))
	})
}

// TestLongTexts has texts that are far longer than any of an object.
func TestLongTexts(t *testing.T) {
	const many = 10_000_000
	digits := strings.Repeat("1", many)
	for _, c := range []struct {
		text string
		at   int
	}{
		{strings.Repeat("\n", many), 1}, {strings.Repeat(" ", many), 1}, {strings.Repeat(" ", many) + "\n", 1}, {digits, 1}, {digits + "\n", 1}, {strings.Repeat("\n", many) + " ", many + 1}, {strings.Repeat("\x00", many) + "\n", 1},
		{"object " + digits + " 0 0\n", 2}, {"object f " + digits + " 0\nret 0\n", 1}, {"object f 0 -" + digits + "\nret 0\n", 1}, {"object f 0 0\nret " + digits + "\n", 2}, {"object f 0 0\nret 0" + strings.Repeat(" ", many) + "\n", 2}, {"object f 0 0\nret" + strings.Repeat(" 0", many) + "\n", 2},
		{"object f 0 0\n" + digits + " 0\n", 2}, {"object f 0 0\nun 0 0 " + digits + "\n", 2}, {"object f 0 0\ncall " + digits + "\n", 3}, {"object f 0 0\n" + strings.Repeat("ret 0\n", many/6), many/6 + 2}, {"object f 0 0\n" + strings.Repeat("ret 0\n", many/6) + "ret\n", many/6 + 2}, {"object f 0 0\nret 0\n" + strings.Repeat("\n", many), 3},
	} {
		inTime(t, c.text[:10], func() { isNone(t, c.text, c.at) })
	}
	inTime(t, "a long name", func() {
		reads(t, "object "+digits+" 0 0\ncall "+digits+"\nret 0\n", mach.Object{Name: digits, Lines: []mach.Line{{Op: 12, Text: digits}, line("ret 0")}})
	})
}
