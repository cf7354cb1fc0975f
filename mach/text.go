package mach

import (
	"strconv"
	"strings"

	"doppel/api"
	"doppel/word"
)

// mostWords is how many words the longest line has. To see that a line has too many, one more is enough.
const mostWords = 5

// Print is an object's text.
func Print(o Object) string {
	if !RightObject(o) {
		return ""
	}
	var out strings.Builder
	out.WriteString("object " + o.Name + " " + strconv.Itoa(o.Slots) + " " + strconv.Itoa(o.Frame) + "\n")
	for _, l := range o.Lines {
		out.WriteString(rows[l.Op].name)
		for _, part := range rows[l.Op].parts {
			out.WriteString(" " + l.text(part))
		}
		out.WriteByte('\n')
	}
	return out.String()
}

// text is a part of a line, as it is printed.
func (l *Line) text(part rune) string {
	switch part {
	case textPart:
		return l.Text
	case unaryPart, binaryPart:
		return word.Name(api.Op(l.N))
	}
	return strconv.Itoa(*l.number(part))
}

// Read is the object of a text, or the first line that is none, and why.
func Read(s string) (Object, int, api.Errno) {
	if !strings.HasSuffix(s, "\n") {
		return Object{}, strings.Count(s, "\n") + 1, api.ErrForm
	}
	var o Object
	at := 0
	for text := range strings.SplitSeq(strings.TrimSuffix(s, "\n"), "\n") {
		at++
		if !o.add(at, strings.SplitN(text, " ", mostWords+1)) {
			return Object{}, at, api.ErrForm
		}
	}
	if !RightObject(o) {
		return Object{}, at + 1, api.ErrForm
	}
	return o, 0, api.OK
}

// add adds the words of a line of a text to an object, and tells whether they may be one at all. What is within bounds is not asked here.
func (o *Object) add(at int, words []string) bool {
	if at == 1 {
		return o.head(words)
	}
	l, is := lineOf(words)
	// Far more lines than there may be would be of no use.
	if len(o.Lines) <= mostLines {
		o.Lines = append(o.Lines, l)
	}
	return is
}

// head takes the words of the first line.
func (o *Object) head(words []string) bool {
	if len(words) != 4 || words[0] != "object" {
		return false
	}
	slots, isSlots := numberOf(words[2])
	frame, isFrame := numberOf(words[3])
	o.Name, o.Slots, o.Frame = strings.Clone(words[1]), slots, frame
	return isSlots && isFrame
}

// lineOf is the line of some words.
func lineOf(words []string) (Line, bool) {
	l := Line{Op: operation(words[0])}
	parts := rows[l.Op].parts
	if l.Op == 0 || len(words) != len(parts)+1 {
		return l, false
	}
	for k, part := range parts {
		if !l.put(part, words[k+1]) {
			return l, false
		}
	}
	return l, true
}

// operation is the one of a name, or 0.
func operation(name string) int {
	for op := Li; op <= Ret; op++ {
		if rows[op].name == name {
			return op
		}
	}
	return 0
}

// put makes a word a part of a line, and tells whether it may be one at all.
func (l *Line) put(part rune, text string) bool {
	switch part {
	case textPart:
		l.Text = strings.Clone(text)
		return true
	case unaryPart, binaryPart:
		op, is := word.Named(text)
		l.N = int(op)
		return is
	}
	n, is := numberOf(text)
	*l.number(part) = n
	return is
}

// numberOf is the number of a text. It must be written as it would be printed.
func numberOf(text string) (int, bool) {
	n, err := strconv.Atoi(text)
	return n, err == nil && strconv.Itoa(n) == text
}
