package mach_test

import (
	"fmt"
	"regexp"
	"strconv"
	"strings"
	"testing"

	"doppel/api"
	"doppel/mach"
	"doppel/sample"
)

// patterns is what each line may be, as it stands in the table; the first one is that of the head. Each number is a group of its own.
func patterns() []*regexp.Regexp {
	var l []*regexp.Regexp
	for _, row := range append([]string{"object Text N N"}, table()...) {
		words := strings.Fields(row)
		for k, part := range words[1:] {
			switch part {
			case "Text":
				words[k+1] = "[^ \n]*"
			case "op":
				words[k+1] = "(?:" + strings.Join(operations(), "|") + ")"
			default:
				words[k+1] = "(0|-?[1-9][0-9]*)"
			}
		}
		l = append(l, regexp.MustCompile("^"+strings.Join(words, " ")+"$"))
	}
	return l
}

// reader reads texts by patterns.
type reader []*regexp.Regexp

// read is what comes of a text by the words of the chapter.
func (r reader) read(s string) (mach.Object, int, api.Errno) {
	texts := strings.Split(s, "\n")
	behind := len(texts)
	if texts[behind-1] != "" || behind == 1 {
		return mach.Object{}, behind, api.ErrForm
	}
	var o mach.Object
	for k, text := range texts[:behind-1] {
		is := false
		if k == 0 {
			is = r.head(&o, text)
		} else {
			is = r.line(&o, text)
		}
		if !is {
			return mach.Object{}, k + 1, api.ErrForm
		}
	}
	if !right(o) {
		return mach.Object{}, behind, api.ErrForm
	}
	return o, 0, api.OK
}

// matches tells whether a text is one of a pattern, and its numbers are ints.
func matches(pattern *regexp.Regexp, text string) bool {
	m := pattern.FindStringSubmatch(text)
	if m == nil {
		return false
	}
	for _, n := range m[1:] {
		if _, err := strconv.Atoi(n); err != nil {
			return false
		}
	}
	return true
}

func (r reader) head(o *mach.Object, text string) bool {
	if !matches(r[0], text) {
		return false
	}
	words := strings.Split(text, " ")
	o.Name, o.Slots, o.Frame = words[1], value(words[2]), value(words[3])
	return true
}

func (r reader) line(o *mach.Object, text string) bool {
	for _, pattern := range r[1:] {
		if matches(pattern, text) {
			o.Lines = append(o.Lines, line(text))
			return true
		}
	}
	return false
}

// isRead holds what is read of a text, against the patterns; and that what is read has that text.
func (r reader) isRead(t *testing.T, text string) bool {
	t.Helper()
	o, at, errno := mach.Read(text)
	other, where, which := r.read(text)
	if !same(o, other) || at != where || errno != which {
		t.Fatalf("Read of %.300q is %.300s %d %d; wanted %.300s %d %d", text, fmt.Sprint(o), at, errno, fmt.Sprint(other), where, which)
	}
	if errno == api.OK && mach.Print(o) != text {
		t.Fatalf("Read of %.300q has the text %.300q", text, mach.Print(o))
	}
	return errno == api.OK
}

// isNone holds that a text is that of no object, and the line that is told.
func isNone(t *testing.T, text string, line int) {
	t.Helper()
	o, at, errno := mach.Read(text)
	if !same(o, mach.Object{}) || o.Lines != nil || at != line || errno != api.ErrForm {
		t.Errorf("Read of %.300q is %.300s %d %d; wanted %d", text, fmt.Sprint(o), at, errno, line)
	}
}

// TestLinesThatAreNone has lines that no object has, wherever they stand.
func TestLinesThatAreNone(t *testing.T) {
	for _, text := range []string{
		"", " ", "  ", "ret", "ret ", "ret 0 ", " ret 0", "ret  0", "ret 0 0", "ret 0  ", "ret\t0", "ret 0\t", "ret\v0", "ret 0\r", "ret\u00a00", "ret 0\x00", "ret 0;", "ret a", "ret 0x1", "ret 0b1", "ret 1_0", "ret 1.0", "ret 1e0", "ret \uff11", "ret -", "ret +", "ret --1",
		"Ret 0", "RET 0", "rets 0", "re 0", "return 0", "0", "0 0", "7", "object f 0 0", "un", "add 0 0 0", "nop", "\x00", "\xff", "#", "//",
		"ret 00", "ret 01", "ret +0", "ret +1", "ret -0", "ret -00", "ret -01", "ret 07", "ret 9223372036854775808", "ret -9223372036854775809", "ret 99999999999999999999999999", "ret 18446744073709551616",
		"li 0", "li 0 ", "li 0 0 0", "li  0 0", "li 0  0", "li 0 0 ", "li 00 0", "li 0 00", "li +1 0", "li 0 +1", "li -0 0", "li 0 -0", "li 0 007", "li 0 -07", "li 0 add", "li 0 9223372036854775808", "li 0 0x10", "li 0 '0'", "li r0 0", "li 0, 0",
		"un 0 0", "un 0 0 ", "un 0 0 0 neg", "un 0 0 neg ", "un 0 0 neg 0", "un 0 0 20", "un 0 0 Neg", "un 0 0 negs", "un 0 0 ne g", "un 0 neg 0", "un 0 0 -", "un 00 0 neg", "un 0 00 neg",
		"bin 0 0 add", "bin 0 0 0", "bin 0 0 0 ", "bin 0 0 0 0 add", "bin 0 0 0 add ", "bin 0 0 0 add 0", "bin 0 0 0 1", "bin 0 0 0 +", "bin 0 0 0 ADD", "bin add 0 0 0", "bin 0 0 00 add", "bin 0 0 -0 add", "bin 0  0 0 add",
		"mv 0", "mv 0 0 0", "fa 0", "fa 0 0 0", "fa 0 00", "ld 0", "ld 0 0 0", "st 0", "st 0 0 0", "lds 0", "lds 0 0 0", "lds 0 00", "sts 0", "sts 0 0 0", "arg 0", "arg 0 0 0", "arg 0 -0", "par 0", "par 0 0 0",
		"call", "call g g", "call g ", "call  g", " call g", "call g 0", "callg", "res", "res 0 0", "getc", "getc 0 0", "putc", "putc 0 0", "jmp", "jmp 0 0", "jmp 00", "bnz 0", "bnz 0 0 0", "bnz 0 +0",
	} {
		isNone(t, "object f 3 5\n"+text+"\nret 0\n", 2)
		isNone(t, "object f 3 5\nli 0 1\nret 0\n"+text+"\n", 4)
		// The first one is told.
		isNone(t, "object f 3 5\nli 0 1\n"+text+"\n"+text+"\nret 00\n", 3)
		isNone(t, "object f 3 5\nret 8\n"+text+"\nret 8\n", 3)
	}
}

// TestHeadsThatAreNone has first lines that no object has.
func TestHeadsThatAreNone(t *testing.T) {
	for _, text := range []string{
		"", " ", "object", "object ", "object f", "object f 0", "object f 0 ", "object f 0 0 ", " object f 0 0", "object  f 0 0", "object f  0 0", "object f 0  0", "object f 0 0 0", "object a b 0 0", "objects f 0 0", "Object f 0 0", "f 0 0", "object\tf 0 0", "object f\t0 0", "object f 0\t0",
		"object f 00 0", "object f 0 00", "object f -0 0", "object f 0 -0", "object f +1 0", "object f 0 +1", "object f 01 0", "object f 0 01", "object f a 0", "object f 0 a", "object f 9223372036854775808 0", "object f 0 9223372036854775808", "object 0 0", "li 0 0 0", "object f 0 0\r", "object f 0 0x0", "object f 0 \xb9",
	} {
		isNone(t, text+"\nret 0\n", 1)
		isNone(t, text+"\nret 00\n", 1)
		isNone(t, text+"\n", 1)
		isNone(t, "\n"+text+"\nret 0\n", 1)
		isNone(t, "object f 0 0\n"+text+"\nret 0\n", 2)
	}
}

// TestTextsWithoutAnEnd has texts without a line, and with one that does not end.
func TestTextsWithoutAnEnd(t *testing.T) {
	for text, at := range map[string]int{
		"": 1, "o": 1, "object f 0 0": 1, "object f 0 0\nret 0": 2, "object f 0 0\n\nret 0": 3, "object f 0 0\nret 0\n ": 3, "object f 0 0\nret 0\nret 0": 3, "object f 0 0\nret 0\x00": 2, "object f 0 0\nret 0\r": 2, "\x00": 1, "ret 0": 1, " ": 1,
		// The end is asked for first.
		"none\nret 0": 2, "object f 0 0\nnone\nret 0": 3, "\n\n\n\nx": 5,
	} {
		isNone(t, text, at)
	}
	for text, at := range map[string]int{"\n": 1, "\n\n": 1, "\n\n\n": 1, "object f 0 0\n": 2, "object f 0 0\n\n": 2, "object f 0 0\nret 0\n\n": 3, "object f 0 0\r\nret 0\r\n": 1} {
		isNone(t, text, at)
	}
}

// TestTextsOfWhatMayNotBe has objects that are read, but may not be: the line behind the last one is told.
func TestTextsOfWhatMayNotBe(t *testing.T) {
	for _, text := range []string{
		"li 8 0", "li -1 0", "li 0 2147483648", "li 0 -2147483649", "li 0 9223372036854775807", "li 0 -9223372036854775808", "un 8 0 neg", "un 0 8 neg", "un 0 0 add", "bin 0 0 0 neg", "bin 0 0 8 add", "mv 0 8", "fa 0 6", "fa 0 -1", "ld 8 0", "st 0 8", "lds 0 3", "lds 0 -1", "sts 0 3", "arg 0 6", "arg 0 -1", "par 0 6", "res 8", "getc 8", "putc 8", "jmp 4", "jmp -1", "bnz 0 4", "bnz 8 0", "ret 8", "ret -1", "ret 4294967296", "call a\tb", "call \x00", "call a\x1f", "call ",
	} {
		isNone(t, "object f 3 5\nli 0 1\nli 0 1\n"+text+"\nret 0\n", 6)
		isNone(t, "object f 3 5\nli 0 1\nli 0 1\nli 0 1\n"+text+"\n", 6)
	}
	for text, at := range map[string]int{
		"object f 0 0\n": 2, "object f 0 0\nli 0 1\n": 3, "object f 0 0\nret 0\nputc 0\n": 4, "object f 0 0\nbnz 0 0\n": 3,
		"object f -1 0\nret 0\n": 3, "object f 0 -1\nret 0\n": 3, "object f 4097 0\nret 0\n": 3, "object f 0 4097\nret 0\n": 3, "object a\tb 0 0\nret 0\n": 3, "object \x00 0 0\nret 0\n": 3, "object \x1f\x7f 0 0\nret 0\n": 3, "object  0 0\nret 0\n": 3, "object f 9223372036854775807 0\nret 0\n": 3,
	} {
		isNone(t, text, at)
	}
	for n, right := range map[int]bool{65535: true, 65536: true, 65537: false, 65538: false, 200_000: false} {
		text := "object f 0 0\n" + strings.Repeat("li 0 1\n", n-1) + "ret 0\n"
		if o, _, errno := mach.Read(text); right && (errno != api.OK || len(o.Lines) != n) {
			t.Error("not read, of so many lines:", n)
		}
		if !right {
			isNone(t, text, n+2)
		}
		isNone(t, text[:len(text)-2]+"00\n", n+1)
		isNone(t, strings.Replace(text, "li 0 1", "li 0 01", 1), 2)
	}
}

// TestEachByte has each byte at each place of a text: in place of another one, ahead of it, and none.
func TestEachByte(t *testing.T) {
	r := reader(patterns())
	texts := []string{"object f 3 5\nli 0 -1\nret 0\n", "object f 3 5\nun 1 2 not\nbin 3 4 5 shru\njmp 1\n", "object ab 10 20\ncall g1\nbnz 0 2\nlds 7 9\nret 7\n", "object f 3 5\n" + strings.ReplaceAll(broad, "; ", "\n") + "\n"}
	isText := 0
	for _, text := range texts {
		if !r.isRead(t, text) {
			t.Errorf("not read: %q", text)
		}
		for at := range len(text) {
			r.isRead(t, text[:at])
			r.isRead(t, text[:at]+text[at+1:])
			for b := range 256 {
				with := text[:at] + string([]byte{byte(b)})
				if r.isRead(t, with+text[at+1:]) && byte(b) != text[at] {
					isText++
				}
				r.isRead(t, with+text[at:])
				r.isRead(t, text+with[at:])
			}
		}
	}
	if isText < 500 {
		t.Error("too few texts that are read:", isText)
	}
	for b := range 256 {
		for _, text := range []string{"", "\n", "ret 0\n", "object f 0 0\n", "object f 0 0\nret 0\n"} {
			r.isRead(t, string([]byte{byte(b)})+text)
			r.isRead(t, string([]byte{byte(b), '\n'})+text)
			r.isRead(t, text+string([]byte{byte(b)}))
			r.isRead(t, text+string([]byte{byte(b), '\n'}))
			r.isRead(t, text+string([]byte{byte(b), byte(b)})+"\nret 0\n")
		}
	}
}

// TestShortLines has every line of up to five of some bytes.
func TestShortLines(t *testing.T) {
	r := reader(patterns())
	const bytes = "ret 01-\n"
	read := 0
	for many := range 6 {
		for row := range sample.Rows(many, len(bytes)) {
			text := []byte("object f 0 0\n")
			for _, k := range row {
				text = append(text, bytes[k])
			}
			if r.isRead(t, string(text)+"\n") {
				read++
			}
			r.isRead(t, string(text)+"\nret 0\n")
		}
	}
	if read != 2 {
		t.Error("so many are read:", read)
	}
}

// TestChangedTexts has texts of pseudo-random objects that are changed at some places.
func TestChangedTexts(t *testing.T) {
	r := reader(patterns())
	read, none := 0, 0
	for seed := range 4000 {
		n := &sample.Numbers{Seed: uint64(seed)}
		text := textOf(objectOf(n, "f", []string{"f", "g"}))
		for range 1 + n.Below(2) {
			at, to := n.Below(len(text)), n.Below(len(text))
			switch n.Below(5) {
			case 0:
				text = text[:at] + string([]byte{byte(n.Below(256))}) + text[at+1:]
			case 1:
				text = text[:at] + text[at+1:]
			case 2:
				text = text[:at] + text[min(at, to):max(at, to)] + text[at:]
			case 3:
				text = text[:min(at, to)] + text[max(at, to):]
			default:
				text = text[:at] + string("0123456789- \nr"[n.Below(14)]) + text[at+1:]
			}
			if n.Below(8) == 0 {
				text += "\n"
			}
		}
		if r.isRead(t, text) {
			read++
		} else {
			none++
		}
	}
	if read < 100 || none < 1000 {
		t.Error("too few of a sort:", read, none)
	}
}
