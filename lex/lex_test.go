package lex_test

import (
	"math/big"
	"math/rand"
	"reflect"
	"regexp"
	"strconv"
	"strings"
	"testing"

	"doppel/api"
	"doppel/lex"
)

// Written out here, as the chapter has them, so that a test does not ask the package what it should say.
var (
	allSigns = strings.Fields("<<= >>= ++ -- -> += -= *= /= %= &= |= ^= << >> <= >= == != && || + - * / % & | ^ ~ ! < > = ? : ; , . ( ) [ ] { }")
	allWords = strings.Fields("break case char continue default do else for getc goto if int putc return sizeof struct switch unsigned void while")
)

var (
	nameForm   = regexp.MustCompile(`^[A-Za-z_][A-Za-z_0-9]*$`)
	digitsForm = regexp.MustCompile(`^[0-9][A-Za-z_0-9]*$`)
	numberForm = regexp.MustCompile(`^(?:([0-9]+)|0[xX]([0-9a-fA-F]+))[uU]?$`)
	quotedForm = allQuoted()
)

func allQuoted() map[string]int {
	m := map[string]int{`'\n'`: 10, `'\t'`: 9, `'\0'`: 0, `'\\'`: 92, `'\''`: 39}
	for b := range 256 {
		if b != 39 && b != 92 && b != 10 {
			m[string([]byte{39, byte(b), 39})] = b
		}
	}
	return m
}

func has(l []string, s string) bool {
	for _, x := range l {
		if x == s {
			return true
		}
	}
	return false
}

// wanted scans by the chapter's definition: it tries every text that begins at a place, the longest first.
func wanted(s string) ([]api.Token, int, api.Errno) {
	if len(s) > 1<<15 {
		return nil, 0, api.ErrLong
	}
	var l []api.Token
	at := 0
	for at < len(s) {
		rest := s[at:]
		if gap := wantedGap(rest); gap != 0 {
			if gap < 0 {
				return nil, at, api.ErrChar
			}
			at += gap
			continue
		}
		token, errno := wantedToken(rest)
		if errno == api.OK && len(l) == 1<<13 {
			errno = api.ErrLong
		}
		if errno != api.OK {
			return nil, at, errno
		}
		token.At = at
		l = append(l, token)
		at += len(token.Text)
	}
	return append(l, api.Token{Kind: api.End, At: len(s)}), 0, api.OK
}

// wantedGap is the length of the white space or comment that a text begins with: 0 without one, -1 for a comment without an end.
func wantedGap(s string) int {
	switch {
	case s[0] == 32 || s[0] == 9 || s[0] == 10 || s[0] == 13:
		return 1
	case strings.HasPrefix(s, "//"):
		line, _, _ := strings.Cut(s, "\n")
		return len(line)
	case strings.HasPrefix(s, "/*"):
		inside, _, closed := strings.Cut(s[2:], "*/")
		if !closed {
			return -1
		}
		return len(inside) + 4
	}
	return 0
}

func wantedToken(s string) (api.Token, api.Errno) {
	for n := len(s); n > 0; n-- {
		text := s[:n]
		if quoted, is := quotedForm[text]; is {
			return api.Token{Kind: api.Number, Text: text, N: quoted}, api.OK
		}
		switch {
		case has(allWords, text):
			return api.Token{Kind: api.Word, Text: text}, api.OK
		case nameForm.MatchString(text):
			return api.Token{Kind: api.Name, Text: text}, api.OK
		case digitsForm.MatchString(text):
			return wantedNumber(text)
		case has(allSigns, text):
			return api.Token{Kind: api.Sign, Text: text}, api.OK
		}
	}
	return api.Token{}, api.ErrChar
}

func wantedNumber(text string) (api.Token, api.Errno) {
	form := numberForm.FindStringSubmatch(text)
	if form == nil {
		return api.Token{}, api.ErrNumber
	}
	n := new(big.Int)
	if form[1] != "" {
		n.SetString(form[1], 10)
	} else {
		n.SetString(form[2], 16)
	}
	if n.Cmp(big.NewInt(1<<32-1)) > 0 {
		return api.Token{}, api.ErrNumber
	}
	return api.Token{Kind: api.Number, Text: text, N: int(n.Int64())}, api.OK
}

func short(s string) string {
	if len(s) > 80 {
		return strconv.Quote(s[:40]) + " .. " + strconv.Quote(s[len(s)-40:])
	}
	return strconv.Quote(s)
}

// scan is for sources without an error.
func scan(t *testing.T, s string) []api.Token {
	t.Helper()
	l, at, errno := lex.Scan(s)
	if errno != api.OK || at != 0 {
		t.Fatalf("%s: position %d, error %d; wanted no error", short(s), at, errno)
	}
	return l
}

func checkTokens(t *testing.T, s string, tokens ...api.Token) {
	t.Helper()
	tokens = append(tokens, api.Token{Kind: api.End, At: len(s)})
	if l := scan(t, s); !reflect.DeepEqual(l, tokens) {
		t.Errorf("%s: %v; wanted %v", short(s), l, tokens)
	}
}

func checkError(t *testing.T, s string, at int, errno api.Errno) {
	t.Helper()
	if l, a, e := lex.Scan(s); len(l) != 0 || a != at || e != errno {
		t.Errorf("%s: %d tokens, position %d, error %d; wanted none, %d, %d", short(s), len(l), a, e, at, errno)
	}
}

func checkByDefinition(t *testing.T, s string) {
	t.Helper()
	l, at, errno := lex.Scan(s)
	if m, a, e := wanted(s); at != a || errno != e || len(l)+len(m) > 0 && !reflect.DeepEqual(l, m) {
		t.Fatalf("%q: %v, %d, %d; wanted %v, %d, %d", s, l, at, errno, m, a, e)
	}
}

// texts checks the texts alone, which stand with spaces between them.
func texts(t *testing.T, s, want string) {
	t.Helper()
	var l []string
	for _, token := range scan(t, s) {
		l = append(l, token.Text)
	}
	if got := strings.TrimSuffix(strings.Join(l, " "), " "); got != want {
		t.Errorf("%s: %s; wanted %s", short(s), got, want)
	}
}

// P2.1

func TestSources(t *testing.T) {
	checkTokens(t, "int main() {\n\treturn 0x1fU + 'a'; // end\n}\n",
		api.Token{Kind: api.Word, Text: "int", At: 0}, api.Token{Kind: api.Name, Text: "main", At: 4},
		api.Token{Kind: api.Sign, Text: "(", At: 8}, api.Token{Kind: api.Sign, Text: ")", At: 9}, api.Token{Kind: api.Sign, Text: "{", At: 11},
		api.Token{Kind: api.Word, Text: "return", At: 14}, api.Token{Kind: api.Number, Text: "0x1fU", N: 31, At: 21},
		api.Token{Kind: api.Sign, Text: "+", At: 27}, api.Token{Kind: api.Number, Text: "'a'", N: 97, At: 29},
		api.Token{Kind: api.Sign, Text: ";", At: 32}, api.Token{Kind: api.Sign, Text: "}", At: 41})
	checkTokens(t, "a+++b",
		api.Token{Kind: api.Name, Text: "a", At: 0}, api.Token{Kind: api.Sign, Text: "++", At: 1},
		api.Token{Kind: api.Sign, Text: "+", At: 3}, api.Token{Kind: api.Name, Text: "b", At: 4})
	texts(t, "struct s{int a;char b[3];};int f(struct s*p){return p->a-p->b[0];}",
		"struct s { int a ; char b [ 3 ] ; } ; int f ( struct s * p ) { return p -> a - p -> b [ 0 ] ; }")
	texts(t, "for(i=0;i<10&&x!=3;i++)x<<=y?~1:-2;", "for ( i = 0 ; i < 10 && x != 3 ; i ++ ) x <<= y ? ~ 1 : - 2 ;")
}

func TestEmpty(t *testing.T) {
	for _, s := range []string{"", " ", "\t", "\n", "\r", " \r\n\t ", "//", "//x", "//\n", "// $ ' /* \n", "/**/", "/* $ ' \n // */", " /***/ //", "/*/*/", "//*\n/**///"} {
		checkTokens(t, s)
	}
}

func TestWhiteSpace(t *testing.T) {
	for _, c := range []struct {
		s    string
		x, y int
	}{
		{"x y", 0, 2}, {" x\ty ", 1, 3}, {"\nx\ny\n", 1, 3}, {"\r\nx\r\ny\r\n", 2, 5}, {"x  \t\r\n  y", 0, 8},
	} {
		checkTokens(t, c.s, api.Token{Kind: api.Name, Text: "x", At: c.x}, api.Token{Kind: api.Name, Text: "y", At: c.y})
	}
	for b := range 256 {
		s := "x" + string([]byte{byte(b)}) + "y"
		if strings.Contains(" \t\n\r", s[1:2]) {
			texts(t, s, "x y")
		} else if l, _, errno := lex.Scan(s); errno == api.OK && len(l) == 3 {
			t.Errorf("byte %d is taken for white space", b)
		}
	}
}

func TestComments(t *testing.T) {
	for _, c := range []struct {
		s    string
		x, y int
	}{
		{"x//\ny", 0, 4}, {"x// y\ny", 0, 6}, {"x//\ny//", 0, 4}, {"x//\r\ny// z", 0, 5}, {"x///\ny", 0, 5}, {"x// /*\ny// */", 0, 7},
		{"x//\\\ny", 0, 5}, {"//\n//\nx//\n//\ny//\n//", 6, 13}, {"// x\rz\nx y", 7, 9},
		{"x/**/y", 0, 5}, {"x/***/y", 0, 6}, {"x/****/y", 0, 7}, {"x/*/*/y", 0, 6}, {"x/*//*/y", 0, 7}, {"x/*y*/y/*z*/", 0, 6}, {"x/* \n \n */y", 0, 10},
		{"x/* // */y", 0, 9}, {"x/* /* */y", 0, 9}, {"/*a*/x/*b*//*c*/ y/**/", 5, 17}, {"x/* * / */y", 0, 10},
		{"x/*\x00\xff'$*/y", 0, 9}, {"x//\x00\xff'$\ny", 0, 8},
	} {
		checkTokens(t, c.s, api.Token{Kind: api.Name, Text: "x", At: c.x}, api.Token{Kind: api.Name, Text: "y", At: c.y})
	}
	texts(t, "a/ /b", "a / / b")
	texts(t, "a/ *b", "a / * b")
	texts(t, "a/=b", "a /= b")
	texts(t, "a*/b", "a * / b")
	texts(t, "a/**/*/b", "a * / b")
	texts(t, "a/**//b", "a / b")
	texts(t, "a/**//**/b", "a b")
	texts(t, "+/**/+", "+ +")
	texts(t, "in/**/t", "in t")
	texts(t, "1/**/2", "1 2")
}

func TestCommentWithoutEnd(t *testing.T) {
	for _, c := range []struct {
		s  string
		at int
	}{
		{"/*", 0}, {"/*/", 0}, {"/**", 0}, {"/* *", 0}, {"/* * /", 0}, {" /*", 1}, {"x/*", 1}, {"x /* y \n z", 2}, {"/**/ /*", 5}, {"/**//*/", 4},
		{"//\n/*", 3}, {"/* /* */ /*", 9}, {"int main(){/*return 0;}", 11}, {"x/*$", 1}, {"/*//", 0}, {"///*\n/*", 5},
	} {
		checkError(t, c.s, c.at, api.ErrChar)
	}
}

func TestSigns(t *testing.T) {
	if len(allSigns) != 45 || !reflect.DeepEqual(lex.Signs(), allSigns) {
		t.Errorf("Signs: %q; wanted %q", lex.Signs(), allSigns)
	}
	for _, s := range allSigns {
		checkTokens(t, s, api.Token{Kind: api.Sign, Text: s})
		checkTokens(t, "x"+s+"1", api.Token{Kind: api.Name, Text: "x"},
			api.Token{Kind: api.Sign, Text: s, At: 1}, api.Token{Kind: api.Number, Text: "1", N: 1, At: 1 + len(s)})
	}
}

func TestLongestSign(t *testing.T) {
	for _, c := range [][2]string{
		{"<<=", "<<="}, {"<<<=", "<< <="}, {"<<<<=", "<< <<="}, {"< <=", "< <="}, {">>>=", ">> >="}, {">>==", ">>= ="}, {">>>>", ">> >>"},
		{"+++", "++ +"}, {"++++", "++ ++"}, {"+++=", "++ +="}, {"---", "-- -"}, {"-->", "-- >"}, {"->>", "-> >"}, {"->=", "-> ="}, {"--->", "-- ->"},
		{"===", "== ="}, {"====", "== =="}, {"!==", "!= ="}, {"!!=", "! !="}, {"<==", "<= ="}, {"=<", "= <"}, {"=>", "= >"}, {"<>", "< >"},
		{"&&&", "&& &"}, {"&&=", "&& ="}, {"&=&", "&= &"}, {"|||", "|| |"}, {"||=", "|| ="}, {"|=|", "|= |"}, {"^==", "^= ="}, {"^^", "^ ^"},
		{"**=", "* *="}, {"%%=", "% %="}, {"~=", "~ ="}, {"~~", "~ ~"}, {"?:", "? :"}, {"::", ": :"}, {"...", ". . ."}, {"()[]{};,", "( ) [ ] { } ; ,"}, {"/==", "/= ="},
	} {
		texts(t, c[0], c[1])
	}
	for _, a := range allSigns {
		for _, b := range allSigns {
			checkByDefinition(t, a+b)
			checkByDefinition(t, a+b+"=")
		}
	}
}

func TestNumbers(t *testing.T) {
	zeros := strings.Repeat("0", 1000)
	for _, c := range []struct {
		s string
		n int
	}{
		{"0", 0}, {"1", 1}, {"9", 9}, {"10", 10}, {"010", 10}, {"08", 8}, {"09", 9}, {"00", 0}, {"123456789", 123456789},
		{"2147483647", 1<<31 - 1}, {"2147483648", 1 << 31}, {"4294967294", 1<<32 - 2}, {"4294967295", 1<<32 - 1}, {"4294967295u", 1<<32 - 1}, {"4294967295U", 1<<32 - 1},
		{"0u", 0}, {"0U", 0}, {"7u", 7}, {"7U", 7}, {"00u", 0}, {zeros + "4294967295", 1<<32 - 1}, {zeros + "u", 0},
		{"0x0", 0}, {"0X0", 0}, {"0x00", 0}, {"0x1f", 31}, {"0x1fU", 31}, {"0X1Fu", 31}, {"0xabcdef", 0xabcdef}, {"0XABCDEF", 0xabcdef}, {"0xaBcDeF09", 0xabcdef09},
		{"0x7fffffff", 1<<31 - 1}, {"0x80000000", 1 << 31}, {"0xffffffff", 1<<32 - 1}, {"0XFFFFFFFFU", 1<<32 - 1}, {"0x" + zeros + "ffffffffu", 1<<32 - 1},
		{"0xbu", 11}, {"0xeU", 14}, {"0x0u", 0},
	} {
		checkTokens(t, c.s, api.Token{Kind: api.Number, Text: c.s, N: c.n})
		checkTokens(t, "-"+c.s+".", api.Token{Kind: api.Sign, Text: "-"},
			api.Token{Kind: api.Number, Text: c.s, N: c.n, At: 1}, api.Token{Kind: api.Sign, Text: ".", At: 1 + len(c.s)})
	}
	texts(t, "1.5", "1 . 5")
	texts(t, "0x1-1", "0x1 - 1")
	texts(t, "1'a'1", "1 'a' 1")
}

func TestNoNumbers(t *testing.T) {
	for _, s := range []string{
		"4294967296", "4294967296u", "4294967300", "4294967305", "9999999999", "8589934592", "18446744073709551616", "18446744073709551617", "36893488147419103233",
		"0x100000000", "0X100000000U", "0xfffffffff", "0x10000000000000000", "0x10000000000000001", "1" + strings.Repeat("0", 30000), "0x1" + strings.Repeat("0", 30000),
		"0x", "0X", "0xu", "0XU", "0xg", "0x1g", "0xx1", "0x0x1", "00x1", "1x1", "0x_1", "0x1_", "1_", "1_0", "0_", "1a", "1f", "0a", "0b1", "0o7", "1e5", "1l", "1L", "1ul", "1lu",
		"1uu", "1Uu", "1u1", "0x1uu", "0x1fu1", "0u1", "0ux1", "0xfUU", "9z", "4294967296x", "1int", "0if",
	} {
		checkError(t, s, 0, api.ErrNumber)
		checkError(t, "x = "+s+";", 4, api.ErrNumber)
	}
	checkError(t, "0xé", 0, api.ErrNumber)
	checkError(t, "1é", 1, api.ErrChar)
}

func TestQuoted(t *testing.T) {
	for s, n := range quotedForm {
		checkTokens(t, s, api.Token{Kind: api.Number, Text: s, N: n})
		checkTokens(t, "x"+s+s, api.Token{Kind: api.Name, Text: "x"},
			api.Token{Kind: api.Number, Text: s, N: n, At: 1}, api.Token{Kind: api.Number, Text: s, N: n, At: 1 + len(s)})
	}
	if len(quotedForm) != 253+5 {
		t.Error("the test's forms:", len(quotedForm))
	}
}

func TestNotQuoted(t *testing.T) {
	for _, s := range []string{
		"'", "''", "'''", "''''", "''a'", "'a", "'a;", "'ab'", "'ab", "'\n'", "'\n", "'\\", "'\\'", "'\\n", "'\\n;", "'\\nn'", "'\\\\", "'\\\\\\'",
		"'\\a'", "'\\r'", "'\\x41'", "'\\1'", "'\\00'", "'\\N'", "'\\T'", "'\\\"'", "'\\ '", "'\\\n'", "'é'", "'\\é'", "'//'", "'/*'", "'  '", "' a'", "'\\\x00'", "'\\\xff'",
	} {
		checkError(t, s, 0, api.ErrChar)
		checkError(t, "x="+s, 2, api.ErrChar)
	}
	checkError(t, "'a''", 3, api.ErrChar)
	checkError(t, "'a'b'", 4, api.ErrChar)
	checkError(t, "1'", 1, api.ErrChar)
	for b := range 256 {
		s := string([]byte{39, 92, byte(b), 39})
		if _, is := quotedForm[s]; !is {
			checkError(t, s, 0, api.ErrChar)
		}
	}
}

func TestWordsAndNames(t *testing.T) {
	if len(allWords) != 20 {
		t.Fatal("the test's words:", len(allWords))
	}
	for _, s := range allWords {
		if !lex.Is(s) {
			t.Errorf("%s is no word", s)
		}
		checkTokens(t, s, api.Token{Kind: api.Word, Text: s})
		for _, x := range []string{s + "_", "_" + s, s + "0", s + s, strings.ToUpper(s), strings.ToUpper(s[:1]) + s[1:], s[:len(s)-1] + "_", s + "x"} {
			if lex.Is(x) {
				t.Errorf("%s is a word", x)
			}
			checkTokens(t, x, api.Token{Kind: api.Name, Text: x})
		}
	}
	for _, s := range []string{"", " ", "main", "long", "short", "const", "static", "enum", "signed", "float", "double", "typedef", "union", "int ", " int", "int\x00", "1", "+", "'a'", "\xff", strings.Repeat("int", 1000)} {
		if lex.Is(s) {
			t.Errorf("%s is a word", short(s))
		}
	}
	for _, s := range []string{"a", "z", "A", "Z", "_", "__", "_0", "a9", "aZ_0", "x0x1", "u", "U", "e5", "inti", "i", "abcdefghijklmnopqrstuvwxyz_ABCDEFGHIJKLMNOPQRSTUVWXYZ0123456789"} {
		checkTokens(t, s, api.Token{Kind: api.Name, Text: s})
	}
	texts(t, "int-x", "int - x")
	texts(t, "int int1 intx", "int int1 intx")
}

func TestEveryByte(t *testing.T) {
	begins := "abcdefghijklmnopqrstuvwxyzABCDEFGHIJKLMNOPQRSTUVWXYZ_0123456789 \t\n\r+-*/%&|^~!<>=?:;,.()[]{}"
	for b := range 256 {
		s := string([]byte{byte(b)})
		if strings.Contains(begins, s) {
			scan(t, s)
			continue
		}
		checkError(t, s, 0, api.ErrChar)
		checkError(t, "/**/x "+s+"y", 6, api.ErrChar)
		checkError(t, "'a'"+s, 3, api.ErrChar)
	}
	for _, s := range []string{"\\", "\"", "#", "$", "@", "`", "\x00", "\x0b", "\x0c", "\x7f", "\x80", "\xff", "é", "\u00a0", "\u2028", "\ufeff"} {
		checkError(t, s, 0, api.ErrChar)
		checkError(t, "int "+s+" x", 4, api.ErrChar)
		checkError(t, "int"+s, 3, api.ErrChar)
	}
}

func TestFirstErrorEnds(t *testing.T) {
	for _, c := range []struct {
		s     string
		at    int
		errno api.Errno
	}{
		{"$ 1x", 0, api.ErrChar}, {"1x $", 0, api.ErrNumber}, {"1x$", 0, api.ErrNumber}, {"1x/*", 0, api.ErrNumber}, {"/* 1x", 0, api.ErrChar},
		{"'' 1x", 0, api.ErrChar}, {"1x ''", 0, api.ErrNumber}, {"1x 2x", 0, api.ErrNumber}, {"a 2x 3x", 2, api.ErrNumber}, {"a $ $", 2, api.ErrChar},
		{"a /*$*/ 1x /*", 8, api.ErrNumber}, {"//1x\n$", 5, api.ErrChar}, {"4294967296 $", 0, api.ErrNumber}, {"x$y$", 1, api.ErrChar},
	} {
		checkError(t, c.s, c.at, c.errno)
	}
}

func TestBytes(t *testing.T) {
	const most = 1 << 15
	name := strings.Repeat("a", most)
	checkTokens(t, name, api.Token{Kind: api.Name, Text: name})
	checkTokens(t, strings.Repeat(" ", most))
	checkTokens(t, "/*"+strings.Repeat("*", most-4)+"*/")
	checkTokens(t, "//"+strings.Repeat("/", most-2))
	checkTokens(t, strings.Repeat("\n", most-1)+"x", api.Token{Kind: api.Name, Text: "x", At: most - 1})
	checkTokens(t, strings.Repeat("0", most), api.Token{Kind: api.Number, Text: strings.Repeat("0", most)})
	checkError(t, "/*"+strings.Repeat(" ", most-2), 0, api.ErrChar)
	checkError(t, strings.Repeat(" ", most-1)+"$", most-1, api.ErrChar)
	checkError(t, strings.Repeat("1", most), 0, api.ErrNumber)
	for _, s := range []string{
		name + "a", strings.Repeat(" ", most+1), strings.Repeat(" ", most) + "$", "$" + name, "1x" + strings.Repeat(" ", most), "/*" + name, "//" + name, "''" + name, strings.Repeat(";", most+1), strings.Repeat(" ", 1<<20),
	} {
		checkError(t, s, 0, api.ErrLong)
	}
}

func TestTokens(t *testing.T) {
	const most = 1 << 13
	for _, text := range []string{";", "x ", "++", "1 ", "if\n", "'a'", "<<="} {
		s := strings.Repeat(text, most)
		l := scan(t, s)
		if len(l) != most+1 || l[most] != (api.Token{Kind: api.End, At: len(s)}) || l[most-1].At != len(s)-len(text) {
			t.Errorf("%q: %d tokens, at last %v", text, len(l), l[len(l)-1])
		}
		checkError(t, s+text, len(s), api.ErrLong)
	}
	full := strings.Repeat("x ", most)
	for _, end := range []string{"", " ", "\n\n", "//", "// $", "/* ; */", "/**/ //"} {
		if l := scan(t, full+end); len(l) != most+1 || l[most].At != len(full+end) {
			t.Errorf("%d tokens before %q, at last %v", len(l), end, l[len(l)-1])
		}
	}
	for _, c := range []struct {
		s     string
		at    int
		errno api.Errno
	}{
		{";", 0, api.ErrLong}, {"x", 0, api.ErrLong}, {"int", 0, api.ErrLong}, {"1", 0, api.ErrLong}, {"'a'", 0, api.ErrLong}, {"  ;", 2, api.ErrLong}, {"/*$*/;", 5, api.ErrLong}, {"//\n<<=", 3, api.ErrLong},
		{"$", 0, api.ErrChar}, {"'", 0, api.ErrChar}, {"''", 0, api.ErrChar}, {"'\\a'", 0, api.ErrChar}, {"/*", 0, api.ErrChar}, {" /*", 1, api.ErrChar}, {"1x", 0, api.ErrNumber}, {"4294967296", 0, api.ErrNumber}, {" 0x", 1, api.ErrNumber},
		{"; $", 0, api.ErrLong}, {"; 1x", 0, api.ErrLong}, {";/*", 0, api.ErrLong}, {";;", 0, api.ErrLong}, {"$;", 0, api.ErrChar}, {"1x;", 0, api.ErrNumber},
	} {
		checkError(t, full+c.s, len(full)+c.at, c.errno)
	}
	less := full[2:]
	checkError(t, less+"$", len(less), api.ErrChar)
	checkError(t, less+";1x", len(less)+1, api.ErrNumber)
	checkError(t, less+";;", len(less)+1, api.ErrLong)
}

// All short texts of bytes at which the forms of tokens, white space and comments part.
func TestShortSourcesByDefinition(t *testing.T) {
	alphabet := "'\\/*\n 0x7u_g+=<-$n\xff"
	var extend func(s string, n int)
	extend = func(s string, n int) {
		checkByDefinition(t, s)
		if n == 0 {
			return
		}
		for i := range len(alphabet) {
			extend(s+alphabet[i:i+1], n-1)
		}
	}
	extend("", 4)
}

func fragments() []string {
	l := append(append([]string{}, allSigns...), allWords...)
	l = append(l, "a", "x1", "_", "main", "0", "1", "42u", "0x1F", "0xffffffff", "4294967295", "'a'", "'\\n'", "'\\''", "'/'", "' '", "'\xe9'")
	return append(l, " ", "  ", "\t", "\n", "\r\n", "//", "// c\n", "/*", "*/", "/* c */", "/**/")
}

func random(r *rand.Rand, l []string) string {
	var b strings.Builder
	for range r.Intn(20) {
		b.WriteString(l[r.Intn(len(l))])
	}
	return b.String()
}

func TestRandomSourcesByDefinition(t *testing.T) {
	r := rand.New(rand.NewSource(2))
	good := fragments()
	bad := append(fragments(), "4294967296", "0x", "1x", "'", "''", "\\", "$", "\x00", "\xff")
	for range 5000 {
		checkByDefinition(t, random(r, good))
		checkByDefinition(t, random(r, bad))
	}
}

func TestRandomBytes(t *testing.T) {
	r := rand.New(rand.NewSource(3))
	for range 2000 {
		b := make([]byte, r.Intn(30))
		r.Read(b)
		checkByDefinition(t, string(b))
	}
}

// The rules on memory and determinism.

func TestResultsAreNewMemory(t *testing.T) {
	s := "int x = 'a';"
	before := scan(t, s)
	kept := append([]api.Token{}, before...)
	other := scan(t, s)
	other = other[:cap(other)]
	for i := range other {
		other[i] = api.Token{Kind: 99, Text: "?"}
	}
	if !reflect.DeepEqual(before, kept) || !reflect.DeepEqual(scan(t, s), kept) {
		t.Error("two results of Scan share memory")
	}
	signs := lex.Signs()
	signs = signs[:cap(signs)]
	for i := range signs {
		signs[i] = "?"
	}
	if !reflect.DeepEqual(lex.Signs(), allSigns) {
		t.Error("two results of Signs share memory")
	}
	texts(t, "a+b", "a + b")
}

func TestScanKeepsNothing(t *testing.T) {
	before := scan(t, "x+'\\n'")
	for _, s := range []string{"$", "1x", "/*", strings.Repeat(";", 9000), strings.Repeat(" ", 1<<16), "y"} {
		lex.Scan(s)
	}
	if !reflect.DeepEqual(scan(t, "x+'\\n'"), before) {
		t.Error("a result depends on the calls before it")
	}
}

// P2.2

var samples = []string{
	"", "x", "int main(){return 1+2*3;}", "a+++b", "a / *b", "a/b//c\n/d", "x= -'\\''+'/'-0xFFu;", "<<=<< =< <=", "'a''b'1 2 int int1", "/ / /*x*/ * /",
	"struct s { int a; char b[3]; }; // s\nint f(struct s *p) { /* p */ return p->b[0] - 'a'; }\n",
}

// placeless is tokens without their places.
func placeless(l []api.Token) []api.Token {
	m := append([]api.Token{}, l...)
	for i := range m {
		m[i].At = 0
	}
	return m
}

func joined(l []api.Token, gap func() string) string {
	var b strings.Builder
	for i, token := range l {
		if i > 0 {
			b.WriteString(gap())
		}
		b.WriteString(token.Text)
	}
	return b.String()
}

func checkJoined(t *testing.T, s string, gap func() string) {
	t.Helper()
	l := scan(t, s)
	if again := joined(l, gap); !reflect.DeepEqual(placeless(scan(t, again)), placeless(l)) {
		t.Errorf("%q is scanned as other tokens than %q", again, s)
	}
}

func space() string { return " " }

func TestTextsJoined(t *testing.T) {
	for _, s := range samples {
		checkJoined(t, s, space)
	}
	for s := range quotedForm {
		checkJoined(t, s+s, space)
	}
	r := rand.New(rand.NewSource(4))
	n := 0
	for range 5000 {
		s := random(r, fragments())
		if _, _, errno := lex.Scan(s); errno == api.OK {
			checkJoined(t, s, space)
			n++
		}
	}
	if n < 1000 {
		t.Error("sources without an error:", n)
	}
	checkJoined(t, strings.Repeat("x+1\n", 1<<12/3), space)
	checkJoined(t, strings.Repeat(";", 1<<13), space)
}

func TestGapsChangeNothing(t *testing.T) {
	gaps := []string{" ", "\t", "\n", "\r\n", " /**/", " /* x 1 ' $ */ ", "\n// x\n", " //\n", "\n/***//*/*/ \t"}
	r := rand.New(rand.NewSource(5))
	for _, s := range samples {
		for _, gap := range gaps {
			checkJoined(t, s, func() string { return gap })
		}
		for range 50 {
			checkJoined(t, s, func() string { return gaps[r.Intn(len(gaps))] })
		}
	}
}

// Each token stands where its text does, and between them there are only white space and comments.
func TestPlaces(t *testing.T) {
	r := rand.New(rand.NewSource(6))
	for range 2000 {
		s := random(r, fragments())
		l, _, errno := lex.Scan(s)
		if errno != api.OK {
			continue
		}
		end := 0
		for _, token := range l {
			if token.At < end || !strings.HasPrefix(s[token.At:], token.Text) || len(scan(t, s[end:token.At])) != 1 {
				t.Fatalf("%q: %v", s, l)
			}
			end = token.At + len(token.Text)
		}
		if end != len(s) || l[len(l)-1].Kind != api.End {
			t.Fatalf("%q: %v", s, l)
		}
	}
}
