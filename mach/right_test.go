package mach_test

import (
	"slices"
	"strings"
	"testing"

	"doppel/mach"
)

// rightLine tells whether a line of an object may be, by the words of the chapter.
func rightLine(o mach.Object, l mach.Line) bool {
	if l.Op < 1 || l.Op > 18 {
		return false
	}
	row := strings.Fields(table()[l.Op-1])
	for part, n := range map[string]int{"R": l.R, "A": l.A, "B": l.B} {
		if most := 7; !slices.Contains(row, part) && n != 0 || n < 0 || n > most {
			return false
		}
	}
	low, high := 0, 0
	switch row[0] {
	case "li":
		low, high = -2147483648, 2147483647
	case "un":
		low, high = 20, 23
	case "bin":
		low, high = 1, 19
	case "fa":
		high = o.Frame
	case "lds", "sts":
		high = o.Slots - 1
	case "arg", "par":
		high = 5
	case "jmp", "bnz":
		high = len(o.Lines) - 1
	}
	return l.N >= low && l.N <= high && (row[0] == "call" && rightName(l.Text) || row[0] != "call" && l.Text == "")
}

func rightName(name string) bool {
	return name != "" && !slices.ContainsFunc([]byte(name), func(b byte) bool { return b < 33 })
}

// right tells whether an object may be, by the words of the chapter.
func right(o mach.Object) bool {
	if !rightName(o.Name) || o.Slots < 0 || o.Slots > 4096 || o.Frame < 0 || o.Frame > 4096 || len(o.Lines) == 0 || len(o.Lines) > 65536 {
		return false
	}
	if last := o.Lines[len(o.Lines)-1].Op; last != 16 && last != 18 {
		return false
	}
	return !slices.ContainsFunc(o.Lines, func(l mach.Line) bool { return !rightLine(o, l) })
}

// isRight holds whether an object may be; only then it has a text, and so it has in an image.
func isRight(t *testing.T, what string, o mach.Object, right bool) {
	t.Helper()
	if mach.RightObject(o) != right {
		t.Errorf("%.300s: RightObject is %v", what, !right)
	}
	if text := mach.Print(o); (text != "") != right {
		t.Errorf("%.300s: Print is %.300q", what, text)
	}
	// All that it may call is there.
	m := image(object("g 0 0", "ret 0"), object("main 0 0", "ret 0"), object("f1 0 0", "ret 0"))
	if o.Name != "g" && o.Name != "main" && o.Name != "f1" {
		m.Objects = append(m.Objects, o)
		if mach.Right(m) != right {
			t.Errorf("%.300s: Right is %v", what, !right)
		}
		r := exit(0)
		if !right {
			r = spent
		}
		want(t, what, mach.Run(m, nil, 9), r)
	}
}

// TestLinesThatMayBe has each line at both ends of each of its parts.
func TestLinesThatMayBe(t *testing.T) {
	for _, text := range []string{
		"li 0 0", "li 7 0", "li 3 -1", "li 0 -2147483648", "li 7 2147483647",
		"un 0 0 neg", "un 7 7 not", "un 0 7 low", "un 7 0 zero",
		"bin 0 0 0 add", "bin 7 7 7 leu", "bin 0 7 0 div", "bin 7 0 7 shru", "bin 1 2 3 eq",
		"mv 0 0", "mv 7 7", "mv 0 7", "fa 0 0", "fa 7 5", "ld 0 0", "ld 7 7", "st 0 0", "st 7 7",
		"lds 0 0", "lds 7 2", "sts 0 0", "sts 7 2", "arg 0 0", "arg 7 5", "par 0 0", "par 7 5",
		"call g", "call main", "call f1", "res 0", "res 7", "getc 0", "getc 7", "putc 0", "putc 7",
		"jmp 0", "jmp 1", "jmp 3", "bnz 0 0", "bnz 7 3", "bnz 0 1", "ret 0", "ret 7",
	} {
		isRight(t, text, object("f 3 5", "li 0 1;"+text+";li 0 1;ret 0"), true)
	}
	for _, name := range operations() {
		if slices.Index(operations(), name) < 19 {
			isRight(t, name, object("f 0 0", "bin 0 1 2 "+name+"; ret 0"), true)
		} else {
			isRight(t, name, object("f 0 0", "un 0 1 "+name+"; ret 0"), true)
		}
	}
	isRight(t, "a line of each kind", object("f 3 5", broad), true)
	// The last lines that may be, and ones that only may be there if there is nothing more.
	for _, text := range []string{"ret 0", "ret 7", "jmp 0"} {
		isRight(t, text+", alone", object("f 0 0", text), true)
		isRight(t, text+", behind others", object("f 0 0", "ret 0; jmp 0; li 0 1;"+text), true)
	}
	// The ends of bounds go with the object.
	isRight(t, "the last slot", object("f 4096 0", "lds 0 4095; sts 0 4095; ret 0"), true)
	isRight(t, "the only slot", object("f 1 0", "lds 0 0; sts 0 0; ret 0"), true)
	isRight(t, "behind the last word of a frame", object("f 0 4096", "fa 0 4096; fa 0 4095; ret 0"), true)
	isRight(t, "a frame of no words", object("f 0 0", "fa 0 0; ret 0"), true)
}

// TestLinesThatMayNotBe has each line beyond both ends of each of its parts.
func TestLinesThatMayNotBe(t *testing.T) {
	for _, text := range []string{
		"li 8 0", "li -1 0", "li 0 2147483648", "li 0 -2147483649", "li 0 4294967296", "li 4294967296 0",
		"un 8 0 neg", "un -1 0 neg", "un 0 8 neg", "un 0 -1 neg", "un 0 0 add", "un 0 0 leu", "un 0 0 none",
		"bin 8 0 0 add", "bin -1 0 0 add", "bin 0 8 0 add", "bin 0 -1 0 add", "bin 0 0 8 add", "bin 0 0 -1 add", "bin 0 0 0 neg", "bin 0 0 0 zero", "bin 0 0 0 none",
		"mv 8 0", "mv -1 0", "mv 0 8", "mv 0 -1", "fa 8 0", "fa -1 0", "fa 0 6", "fa 0 -1",
		"ld 8 0", "ld -1 0", "ld 0 8", "ld 0 -1", "st 8 0", "st -1 0", "st 0 8", "st 0 -1",
		"lds 8 0", "lds -1 0", "lds 0 3", "lds 0 4", "lds 0 -1", "sts 8 0", "sts -1 0", "sts 0 3", "sts 0 -1",
		"arg 8 0", "arg -1 0", "arg 0 6", "arg 0 -1", "par 8 0", "par -1 0", "par 0 6", "par 0 -1",
		"res 8", "res -1", "getc 8", "getc -1", "putc 8", "putc -1",
		"jmp 4", "jmp -1", "bnz 8 0", "bnz -1 0", "bnz 0 4", "bnz 0 -1", "ret 8", "ret -1",
	} {
		isRight(t, text, object("f 3 5", "li 0 1;"+text+";li 0 1;ret 0"), false)
	}
	isRight(t, "a slot of none", object("f 0 0", "lds 0 0; ret 0"), false)
	isRight(t, "a slot of none, stored to", object("f 0 9", "sts 0 0; ret 0"), false)
	isRight(t, "beyond a frame of no words", object("f 9 0", "fa 0 1; ret 0"), false)
	isRight(t, "no last register", object("f 9 9", "ret 8"), false)
	isRight(t, "no line to go on at", object("f 9 9", "jmp 1"), false)
	isRight(t, "not reached", object("f 9 9", "ret 0; li 8 0; ret 0"), false)
}

// TestEachField changes a field of a line at a time.
func TestEachField(t *testing.T) {
	o := object("f 3 5", broad)
	for at := range o.Lines {
		for _, n := range edges() {
			for what, field := range map[string]func(l *mach.Line) *int{
				"Op": func(l *mach.Line) *int { return &l.Op }, "R": func(l *mach.Line) *int { return &l.R }, "A": func(l *mach.Line) *int { return &l.A },
				"B": func(l *mach.Line) *int { return &l.B }, "N": func(l *mach.Line) *int { return &l.N },
			} {
				changed := copyOf(o)
				*field(&changed.Lines[at]) = n
				isRight(t, what+" "+number(n)+" of line "+number(at), changed, right(changed))
			}
		}
		for _, text := range []string{"", "g", "main", " ", "\n", "\x00", "g g", "g ", " g", "li"} {
			changed := copyOf(o)
			changed.Lines[at].Text = text
			// What is called must be there, but that makes no difference to the object.
			if is := right(changed); text != "li" || !is {
				isRight(t, "Text "+text+" of line "+number(at), changed, is)
			}
		}
	}
}

// TestWhatMustBeZero has a 1 in each field, and a Text, where a line has no such part.
func TestWhatMustBeZero(t *testing.T) {
	named := map[string]string{"li": "RN", "un": "RAN", "bin": "RABN", "mv": "RA", "fa": "RN", "ld": "RA", "st": "AB", "lds": "RN", "sts": "AN", "arg": "AN", "par": "RN", "call": "T", "res": "R", "getc": "R", "putc": "A", "jmp": "N", "bnz": "AN", "ret": "A"}
	for at, l := range object("f 3 5", broad).Lines {
		name := strings.Fields(table()[l.Op-1])[0]
		for _, part := range "RABNT" {
			changed := object("f 3 5", broad)
			switch l := &changed.Lines[at]; part {
			case 'R':
				l.R = 1
			case 'A':
				l.A = 1
			case 'B':
				l.B = 1
			case 'N':
				if l.N = 1; name == "un" {
					l.N = 21
				}
			case 'T':
				l.Text = "main"
			}
			isRight(t, string(part)+" of "+name, changed, strings.ContainsRune(named[name], part))
		}
	}
}

// TestNames has each byte in the name of an object and of a call, at each place.
func TestNames(t *testing.T) {
	for b := range 256 {
		for _, name := range []string{string([]byte{byte(b)}), string([]byte{'a', byte(b)}), string([]byte{byte(b), 'a'}), string([]byte{'a', byte(b), 'a'})} {
			o := object("f 0 0", "ret 0")
			o.Name = name
			isRight(t, "the name "+name, o, b >= 33)
			caller := object("caller 0 0", "call f; ret 0")
			caller.Lines[0].Text = name
			if mach.RightObject(caller) != (b >= 33) {
				t.Errorf("RightObject of a call of %q", name)
			}
		}
	}
	o := object("f 0 0", "call f; ret 0")
	o.Name = ""
	isRight(t, "no name", o, false)
	o.Name, o.Lines[0].Text = "f", ""
	isRight(t, "a call of no name", o, false)
	o.Name, o.Lines[0].Text = strings.Repeat("long", 10_000), "main"
	isRight(t, "a long name", o, true)
	isRight(t, "a name of bytes that are no text", object("\xff\xfe\x80\xc3 0 0", "ret 0"), true)
	isRight(t, "a name of words", object("object 0 0", "ret 0"), true)
}

// TestSizes has the numbers of slots and of the frame at both ends and beyond.
func TestSizes(t *testing.T) {
	for _, n := range edges() {
		o := object("f 0 0", "ret 0")
		o.Slots = n
		isRight(t, "Slots "+number(n), o, n >= 0 && n <= 4096)
		o.Slots, o.Frame = 0, n
		isRight(t, "Frame "+number(n), o, n >= 0 && n <= 4096)
	}
	isRight(t, "Slots 4097", object("f 4097 0", "ret 0"), false)
	isRight(t, "Frame 4097", object("f 0 4097", "ret 0"), false)
	isRight(t, "both at the end", object("f 4096 4096", "ret 0"), true)
}

// TestHowManyLines has objects without lines, and with as many as there may be.
func TestHowManyLines(t *testing.T) {
	o := object("f 0 0", "ret 0")
	o.Lines = nil
	isRight(t, "no lines, nil", o, false)
	o.Lines = []mach.Line{}
	isRight(t, "no lines, empty", o, false)
	for n, right := range map[int]bool{1: true, 2: true, 65535: true, 65536: true, 65537: false, 65538: false, 131072: false} {
		o.Lines = append(slices.Repeat([]mach.Line{line("li 0 1")}, n-1), line("jmp 0"))
		isRight(t, number(n)+" lines", o, right)
		o.Lines[n-1].N = n - 1
		isRight(t, number(n)+" lines, the last one leads to itself", o, right)
		o.Lines[n-1].N = n
		isRight(t, number(n)+" lines, the last one leads behind it", o, false)
		o.Lines[n-1] = line("ret 0")
		isRight(t, number(n)+" lines, the last one returns", o, right)
		o.Lines[n-1] = line("li 0 1")
		isRight(t, number(n)+" lines that go on", o, false)
	}
	isRight(t, "nothing at all", mach.Object{}, false)
	isRight(t, "a line of nothing", mach.Object{Name: "f", Lines: make([]mach.Line, 1)}, false)
	isRight(t, "a line of nothing ahead of others", mach.Object{Name: "f", Lines: []mach.Line{{}, line("ret 0")}}, false)
}

// TestLastLine has each kind of line as the last one.
func TestLastLine(t *testing.T) {
	for _, l := range object("f 3 5", broad).Lines {
		o := object("f 3 5", broad+"; ret 0")
		o.Lines[len(o.Lines)-1] = l
		name := strings.Fields(table()[l.Op-1])[0]
		isRight(t, name+" at the end", o, name == "jmp" || name == "ret")
	}
}
