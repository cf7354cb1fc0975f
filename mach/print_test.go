package mach_test

import (
	"fmt"
	"strings"
	"testing"

	"doppel/api"
	"doppel/mach"
	"doppel/sample"
)

// TestPrint has each kind of line, with its numbers at both ends, and names of all bytes that may be.
func TestPrint(t *testing.T) {
	for _, c := range []struct {
		o    mach.Object
		text string
	}{
		{object("main 0 0", "li 0 7; ret 0"), "object main 0 0\nli 0 7\nret 0\n"},
		{object("f 4096 4096", "jmp 0"), "object f 4096 4096\njmp 0\n"},
		{object("object 10 9", "ret 7"), "object object 10 9\nret 7\n"},
		{object("f 3 5", broad), "object f 3 5\nli 0 -1\nun 7 6 not\nbin 1 2 3 sub\nmv 0 7\nfa 1 5\nld 2 3\nst 4 5\nlds 6 2\nsts 7 0\narg 0 5\npar 1 0\ncall g\nres 7\ngetc 0\nputc 1\njmp 17\nbnz 7 0\nret 2\n"},
		{object("f 0 0", "li 0 0; li 1 -2147483648; li 2 2147483647; li 3 10; li 4 -10; ret 0"), "object f 0 0\nli 0 0\nli 1 -2147483648\nli 2 2147483647\nli 3 10\nli 4 -10\nret 0\n"},
		{object("f 4096 4096", "lds 0 4095; sts 0 4095; fa 0 4096; ret 0"), "object f 4096 4096\nlds 0 4095\nsts 0 4095\nfa 0 4096\nret 0\n"},
		{object("\x7f\x80\xff!\xc3\xa9\xe2 0 0", "call \xff\xfe; call \x80; call \xef\xbf\xbd; call -1; ret 0"), "object \x7f\x80\xff!\xc3\xa9\xe2 0 0\ncall \xff\xfe\ncall \x80\ncall \xef\xbf\xbd\ncall -1\nret 0\n"},
		{object("a 0 0", "un 0 0 neg; un 0 0 zero; bin 0 0 0 add; bin 0 0 0 leu; bin 7 6 5 shru; ret 0"), "object a 0 0\nun 0 0 neg\nun 0 0 zero\nbin 0 0 0 add\nbin 0 0 0 leu\nbin 7 6 5 shru\nret 0\n"},
	} {
		if text := mach.Print(c.o); text != c.text {
			t.Errorf("Print is %q; wanted %q", text, c.text)
		}
		reads(t, c.text, c.o)
	}
	for k, name := range operations() {
		o := object("f 0 0", "bin 7 6 5 "+name+"; ret 0")
		text := "object f 0 0\nbin 7 6 5 " + name + "\nret 0\n"
		if k >= 19 {
			o, text = object("f 0 0", "un 7 6 "+name+"; ret 0"), "object f 0 0\nun 7 6 "+name+"\nret 0\n"
		}
		if mach.Print(o) != text {
			t.Errorf("Print is %q; wanted %q", mach.Print(o), text)
		}
		reads(t, text, o)
	}
}

// TestPrintOfNone has objects that may not be: their text is empty.
func TestPrintOfNone(t *testing.T) {
	for _, o := range []mach.Object{
		{}, {Name: "f"}, {Name: "f", Lines: []mach.Line{}}, {Lines: []mach.Line{line("ret 0")}}, object("f -1 0", "ret 0"), object("f 0 -1", "ret 0"), object("f 0 0", "li 0 1"), object("f 0 0", "ret 8"),
		{Name: "a b", Lines: []mach.Line{line("ret 0")}}, {Name: "a\n", Lines: []mach.Line{line("ret 0")}}, {Name: "f", Lines: []mach.Line{{Op: 12, Text: "a b"}, line("ret 0")}}, {Name: "f", Lines: []mach.Line{{Op: 0}, line("ret 0")}}, {Name: "f", Lines: []mach.Line{{Op: 19}, line("ret 0")}},
	} {
		if text := mach.Print(o); text != "" {
			t.Errorf("Print is %q", text)
		}
	}
}

// reads holds that a text is that of an object, and that the object has that text.
func reads(t *testing.T, text string, want mach.Object) {
	t.Helper()
	o, at, errno := mach.Read(text)
	if !same(o, want) || at != 0 || errno != api.OK {
		t.Errorf("Read of %.300q is %.300s %d %d", text, fmt.Sprint(o), at, errno)
	}
	if again := mach.Print(o); again != text {
		t.Errorf("Read of %.300q has the text %.300q", text, again)
	}
}

// TestReadWhatIsPrinted has each line of pseudo-random objects, and objects of all sorts of numbers.
func TestReadWhatIsPrinted(t *testing.T) {
	texts := map[string]bool{}
	for seed := range 3000 {
		for _, o := range imageOf(seed).Objects {
			text := mach.Print(o)
			if text != textOf(o) {
				t.Fatalf("Print is %q; wanted %q", text, textOf(o))
			}
			reads(t, text, o)
			texts[text] = true
		}
	}
	if len(texts) < 5000 {
		t.Error("too few texts:", len(texts))
	}
	n := &sample.Numbers{}
	for range 2000 {
		var name strings.Builder
		for range 1 + n.Below(6) {
			name.WriteByte(byte(33 + n.Below(223)))
		}
		o := objectOf(n, name.String(), []string{name.String(), "g"})
		o.Slots, o.Frame = max(o.Slots, n.Below(4097)), max(o.Frame, n.Below(4097))
		reads(t, textOf(o), o)
	}
}
