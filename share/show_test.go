package share_test

import (
	"fmt"
	"slices"
	"strconv"
	"strings"
	"testing"

	"doppel/api"
	"doppel/code"
	"doppel/sample"
	"doppel/share"
)

// function has two parameters, the registers 0 to 7, and a frame of three words.
func function(l ...api.Instr) api.Func { return sample.Func("f", 2, 8, 3, l...) }

func read(text string) api.Func { return function(sample.Read(text)...) }

func number(n int) string { return strconv.Itoa(n) }

func show(f api.Func) string { return sample.Show(f) }

// at is a text with a number in place of each "@".
func at(text string, n int) string { return strings.ReplaceAll(text, "@", number(n)) }

// all is what the package tells of a function.
type all struct {
	firsts []bool
	shared api.Func
	count  int
	short  api.Func
}

func told(f api.Func) all {
	l := all{firsts: share.Firsts(f), short: share.All(f)}
	l.shared, l.count = share.Of(f)
	return l
}

// holds holds all that is told of a function.
func holds(t *testing.T, what string, f api.Func, want all) {
	t.Helper()
	got := told(f)
	if !slices.Equal(got.firsts, want.firsts) {
		t.Errorf("%.900s: Firsts is %.600s; wanted %.600s", what, fmt.Sprint(got.firsts), fmt.Sprint(want.firsts))
	}
	if !code.Same(got.shared, want.shared) || got.count != want.count {
		t.Errorf("%.900s: Of is %d, %.900s; wanted %d, %.900s", what, got.count, show(got.shared), want.count, show(want.shared))
	}
	if !code.Same(got.short, want.short) {
		t.Errorf("%.900s: All is %.900s; wanted %.900s", what, show(got.short), show(want.short))
	}
	if code.RightFunc(f) {
		isShared(t, what, f)
		isShort(t, what, f)
	}
}

// unlike is how many instructions are.
func unlike(f, g api.Func) int {
	many := 0
	for at, i := range f.Code {
		if at >= len(g.Code) || i != g.Code[at] {
			many++
		}
	}
	return many
}

// sameHeads tells whether functions are the same but for their instructions.
func sameHeads(f, g api.Func) bool {
	f.Code, g.Code = nil, nil
	return code.Same(f, g)
}

// isShared holds that what was shared may be, that each instruction sets what it did and goes on where it did, and that nothing is left to share.
func isShared(t *testing.T, what string, f api.Func) {
	t.Helper()
	shared, count := share.Of(f)
	if !code.RightFunc(shared) || len(shared.Code) != len(f.Code) || !sameHeads(f, shared) {
		t.Errorf("%.900s: Of is not valid, or not of the same sort: %.900s", what, show(shared))
		return
	}
	if n := unlike(f, shared); n != count {
		t.Errorf("%.900s: Of changes %d instructions, and tells of %d", what, n, count)
	}
	for at, i := range f.Code {
		instead := shared.Code[at]
		if code.Sets(i) != code.Sets(instead) || !slices.Equal(code.Next(i, at), code.Next(instead, at)) || i.Kind != instead.Kind && instead.Kind != api.Copy {
			t.Errorf("%.900s: what takes the place of %d is of another sort: %.900s", what, at, show(shared))
		}
	}
	if again, none := share.Of(shared); none != 0 || !code.Same(again, shared) {
		t.Errorf("%.900s: shared again: %d, %.900s", what, none, show(again))
	}
	if !slices.Equal(share.Firsts(shared), share.Firsts(f)) {
		t.Errorf("%.900s: the runs are others in %.900s", what, show(shared))
	}
}

// isShort holds that what was made short may be, and is not longer.
func isShort(t *testing.T, what string, f api.Func) {
	t.Helper()
	short := share.All(f)
	if !code.RightFunc(short) || len(short.Code) > len(f.Code) || !sameHeads(f, short) {
		t.Errorf("%.900s: All is not valid, or not of the same sort: %.900s", what, show(short))
	}
}

// both is a function, and what it is to become: nothing is told if it stays.
func both(t *testing.T, what, text, into string) (f, want api.Func) {
	t.Helper()
	f = read(text)
	want = f
	if into != "" {
		want = read(into)
	}
	if !code.RightFunc(f) || !code.RightFunc(want) || text == into {
		t.Fatal(what + ": not valid, or it stays")
	}
	return f, want
}

// sharing is a function, and what Of makes of it: nothing is told if it stays.
type sharing struct{ what, code, into string }

func (s sharing) tells(t *testing.T) {
	t.Helper()
	f, want := both(t, s.what, s.code, s.into)
	shared, count := share.Of(f)
	if !code.Same(shared, want) || count != unlike(f, want) {
		t.Errorf("%s: Of is %d, %s; wanted %s", s.what, count, show(shared), show(want))
	}
	isShared(t, s.what, f)
	isShort(t, s.what, f)
}

// setters is an instruction of each kind that sets a register, "@", but a Copy; they read 6 and 7 alone.
func setters() []string {
	return []string{"const @ 5", "neg @ 6", "add @ 6 7", "div @ 6 7", "frame @ 1", "load @ 6", "call @ g", "call @ g 6 7", "getc @"}
}

// others is an instruction of each kind that sets none, and goes on at the next one.
func others() []string { return []string{"store 6 7", "call -1 g", "call -1 g 6 7", "putc 6"} }
