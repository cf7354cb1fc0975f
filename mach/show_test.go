package mach_test

import (
	"math"
	"slices"
	"strconv"
	"strings"
	"testing"

	"doppel/api"
	"doppel/mach"
	"doppel/sample"
)

const plenty = 1_000_000

// table is that of the chapter: the place of a row is the number of its operation, less 1.
func table() []string {
	return []string{
		"li R N", "un R A op", "bin R A B op", "mv R A", "fa R N", "ld R A", "st A B", "lds R N", "sts A N",
		"arg A N", "par R N", "call Text", "res R", "getc R", "putc A", "jmp N", "bnz A N", "ret A",
	}
}

// operations is the names of those on words, in the order of api.
func operations() []string {
	return strings.Fields("add sub mul div rem divu remu and or xor shl shr shru eq ne lt le ltu leu neg not low zero")
}

// broad is a line of each kind, for an object with three slots, and five words in its frame, in the order of the table.
const broad = "li 0 -1; un 7 6 not; bin 1 2 3 sub; mv 0 7; fa 1 5; ld 2 3; st 4 5; lds 6 2; sts 7 0; arg 0 5; par 1 0; call g; res 7; getc 0; putc 1; jmp 17; bnz 7 0; ret 2"

// object is one of texts: its head without the first word, and its lines, parted by semicolons. Nothing of the package makes it.
func object(head, lines string) mach.Object {
	words := strings.Fields(head)
	o := mach.Object{Name: words[0], Slots: value(words[1]), Frame: value(words[2])}
	for text := range strings.SplitSeq(lines, ";") {
		o.Lines = append(o.Lines, line(strings.Trim(text, " ")))
	}
	return o
}

func value(text string) int {
	n, err := strconv.Atoi(text)
	if err != nil {
		panic("no number: " + text)
	}
	return n
}

// line is one of a text, whose words are parted by one space each.
func line(text string) mach.Line {
	words := strings.Split(text, " ")
	op := slices.IndexFunc(table(), func(row string) bool { return strings.HasPrefix(row, words[0]+" ") })
	row := strings.Fields(table()[op])
	if len(row) != len(words) {
		panic("no line: " + text)
	}
	l := mach.Line{Op: op + 1}
	for k, part := range row[1:] {
		switch w := words[k+1]; part {
		case "R":
			l.R = value(w)
		case "A":
			l.A = value(w)
		case "B":
			l.B = value(w)
		case "N":
			l.N = value(w)
		case "op":
			l.N = slices.Index(operations(), w) + 1
		case "Text":
			l.Text = w
		}
	}
	return l
}

// textOf is how an object must be printed, if it may be.
func textOf(o mach.Object) string {
	text := "object " + o.Name + " " + number(o.Slots) + " " + number(o.Frame) + "\n"
	for _, l := range o.Lines {
		row := strings.Fields(table()[l.Op-1])
		for k, part := range row[1:] {
			row[k+1] = map[string]string{"R": number(l.R), "A": number(l.A), "B": number(l.B), "N": number(l.N), "Text": l.Text}[part]
			if part == "op" {
				row[k+1] = operations()[l.N-1]
			}
		}
		text += strings.Join(row, " ") + "\n"
	}
	return text
}

// copyOf is an object with lines of its own.
func copyOf(o mach.Object) mach.Object {
	o.Lines = append([]mach.Line{}, o.Lines...)
	return o
}

// image is one without globals: its frames begin at word 1.
func image(l ...mach.Object) mach.Image { return mach.Image{Objects: l, Top: 1} }

// alone is an image of a main, with four slots, and without a frame.
func alone(lines string) mach.Image { return image(object("main 4 0", lines)) }

// with is an image with globals.
func with(m mach.Image, top int, globals ...api.Global) mach.Image {
	m.Top, m.Globals = top, globals
	return m
}

func result(end, code int, output string) api.Result {
	return api.Result{End: end, Code: code, Output: []byte(output)}
}

func exit(code int) api.Result { return result(api.Exit, code, "") }

var spent = result(api.Spent, 0, "")

func number(n int) string { return strconv.Itoa(n) }

func show(r api.Result) string {
	return []string{"no end", "Exit", "Trap", "Full", "Spent"}[r.End] + " " + number(r.Code) + " " + strconv.Quote(string(r.Output))
}

func want(t *testing.T, what string, got, want api.Result) {
	t.Helper()
	if !sample.Same(got, want) {
		t.Errorf("%.300s: %.200s; wanted %.200s", what, show(got), show(want))
	}
}

// comes holds what comes of a valid image, with enough fuel.
func comes(t *testing.T, what string, m mach.Image, input string, r api.Result) {
	t.Helper()
	if !mach.Right(m) {
		t.Errorf("%.300s: not valid", what)
	}
	want(t, what, mach.Run(m, []byte(input), plenty), r)
}

// uses holds exactly how much fuel a run uses: with 1 less it is Spent.
func uses(t *testing.T, what string, m mach.Image, fuel int) {
	t.Helper()
	if r := mach.Run(m, nil, fuel-1); r.End != api.Spent || r.Code != 0 {
		t.Errorf("%.300s: with a fuel of %d: %s; wanted Spent 0", what, fuel-1, show(r))
	}
	enough, all := mach.Run(m, nil, fuel), mach.Run(m, nil, math.MaxInt)
	if enough.End == api.Spent || !sample.Same(enough, all) {
		t.Errorf("%.300s: with a fuel of %d: %s; with all of it %s", what, fuel, show(enough), show(all))
	}
}

// same is Same, without the package that is tested.
func same(a, b mach.Object) bool {
	return a.Name == b.Name && a.Slots == b.Slots && a.Frame == b.Frame && slices.Equal(a.Lines, b.Lines)
}

// edges is each number at which something may end, and huge ones.
func edges() []int {
	l := sample.Huge()
	for n := -3; n < 30; n++ {
		l = append(l, n)
	}
	for _, n := range []int{255, 1 << 12, 1 << 16, 1 << 31, -1 << 31} {
		l = append(l, n-1, n, n+1)
	}
	return l
}
