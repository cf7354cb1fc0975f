package flow_test

import (
	"fmt"
	"reflect"
	"strconv"
	"strings"
	"testing"

	"doppel/api"
	"doppel/code"
	"doppel/flow"
	"doppel/sample"
)

type (
	list  = []api.Instr
	value = flow.Value
)

// function has one parameter, the registers 0 to 3, and a frame of three words.
func function(l ...api.Instr) api.Func { return sample.Func("f", 1, 4, 3, l...) }

func number(n int) string { return strconv.Itoa(n) }

// drawn is what is known ahead of an instruction: "?" for Any, "-" for Never, or the word, a register each; "" if each is Never.
func drawn(text string, registers int) []value {
	if text == "" {
		text = strings.Repeat("- ", registers)
	}
	var l []value
	for _, word := range strings.Fields(text) {
		switch word {
		case "?":
			l = append(l, value{Kind: flow.Any})
		case "-":
			l = append(l, value{Kind: flow.Never})
		default:
			n, err := strconv.Atoi(word)
			if err != nil {
				panic(err)
			}
			l = append(l, value{flow.Known, n})
		}
	}
	return l
}

func show(f api.Func) string { return sample.Show(f) }

// all is what the package tells of a function.
type all struct {
	ahead  [][]value
	folded api.Func
	count  int
}

func told(f api.Func) all {
	l := all{ahead: flow.Ahead(f)}
	l.folded, l.count = flow.Fold(f)
	return l
}

// holds holds all that is told of a function.
func holds(t *testing.T, what string, f api.Func, want all) {
	t.Helper()
	got := told(f)
	if !reflect.DeepEqual(sample.Lists(got.ahead), sample.Lists(want.ahead)) {
		t.Errorf("%.900s: Ahead is %.600s; wanted %.600s", what, fmt.Sprint(got.ahead), fmt.Sprint(want.ahead))
	}
	if !code.Same(got.folded, want.folded) || got.count != want.count {
		t.Errorf("%.900s: Fold is %d, %.900s; wanted %d, %.900s", what, got.count, show(got.folded), want.count, show(want.folded))
	}
	if code.RightFunc(f) {
		isFolded(t, what, f)
	}
}

// isFolded holds that what was folded may be, has nothing to fold, and that only so many instructions are unlike.
func isFolded(t *testing.T, what string, f api.Func) {
	t.Helper()
	folded, count := flow.Fold(f)
	if !code.RightFunc(folded) || len(folded.Code) != len(f.Code) {
		t.Errorf("%.900s: Fold is not valid: %.900s", what, show(folded))
		return
	}
	unlike := 0
	for at, i := range f.Code {
		if i != folded.Code[at] {
			unlike++
		}
	}
	if unlike != count {
		t.Errorf("%.900s: Fold changes %d instructions, and tells of %d", what, unlike, count)
	}
	if !reflect.DeepEqual(flow.Ahead(folded), flow.Ahead(f)) {
		t.Errorf("%.900s: what is known is unlike in %.900s", what, show(folded))
	}
	if again, none := flow.Fold(folded); none != 0 || !code.Same(again, folded) {
		t.Errorf("%.900s: folded again: %d, %.900s", what, none, show(again))
	}
	if folded.Name != f.Name || folded.Params != f.Params || folded.Regs != f.Regs || folded.Frame != f.Frame {
		t.Errorf("%.900s: Fold changes more than the instructions", what)
	}
}

// into is what instructions become, by their places.
type into map[int]api.Instr

// drawing is a function, what is known ahead of each of its instructions, and what Fold makes of some of them.
type drawing struct {
	what  string
	code  list
	ahead []string
	into  into
}

func (d drawing) tells(t *testing.T) {
	t.Helper()
	d.tellsOf(t, function(d.code...))
}

// tellsOf takes the instructions with all else of the function.
func (d drawing) tellsOf(t *testing.T, f api.Func) {
	t.Helper()
	if !code.RightFunc(f) || len(d.ahead) != len(f.Code) {
		t.Fatal(d.what + ": not valid")
	}
	want := all{folded: code.Clone(f), count: len(d.into)}
	for _, text := range d.ahead {
		want.ahead = append(want.ahead, drawn(text, f.Regs))
	}
	for at, i := range d.into {
		want.folded.Code[at] = i
	}
	holds(t, d.what, f, want)
}
