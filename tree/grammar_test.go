package tree_test

import (
	"math/rand"
	"strconv"
	"strings"
	"testing"

	"doppel/api"
	"doppel/lex"
	"doppel/tree"
)

// The chapter's grammar, a rule a line; name and number are tokens of these kinds, what is not on the left of a line is a token of that text.
const rulesText = `
program =
program = program whole
whole = structure
whole = global
whole = function
structure = struct name { fields } ;
fields = field
fields = fields field
field = type name count ;
count =
count = [ number ]
type = int
type = unsigned
type = char
type = void
type = struct name
type = type *
global = type name count ;
global = type name count = signed ;
signed = number
signed = - number
function = type name ( ) block
function = type name ( params ) block
params = param
params = params , param
param = type name
block = { statements }
statements =
statements = statements statement
statement = block
statement = ;
statement = expression ;
statement = if ( expression ) statement
statement = if ( expression ) statement else statement
statement = while ( expression ) statement
statement = do statement while ( expression ) ;
statement = for ( perhaps ; perhaps ; perhaps ) statement
statement = break ;
statement = continue ;
statement = return perhaps ;
statement = goto name ;
statement = name : statement
statement = switch ( expression ) block
statement = case signed : statement
statement = default : statement
statement = type name count ;
statement = type name count = expression ;
perhaps =
perhaps = expression
expression = choice
expression = choice assigns expression
choice = level1
choice = level1 ? expression : choice
prefix = postfix
prefix = unary prefix
prefix = ( type ) prefix
prefix = sizeof ( type count )
postfix = primary
postfix = postfix [ expression ]
postfix = postfix . name
postfix = postfix -> name
postfix = postfix ++
postfix = postfix --
primary = name
primary = number
primary = ( expression )
primary = name ( )
primary = name ( arguments )
primary = getc ( )
primary = putc ( expression )
arguments = expression
arguments = arguments , expression
`

// rule is a line of the grammar.
type rule struct {
	left  string
	right []string
}

// grammar is the rules by their left sides, with those of the operators: level1 is the weakest of the binary ones.
func grammar() map[string][]rule {
	g := map[string][]rule{}
	add := func(left string, right ...string) { g[left] = append(g[left], rule{left, right}) }
	for _, line := range strings.Split(strings.TrimSpace(rulesText), "\n") {
		words := strings.Fields(line)
		add(words[0], words[2:]...)
	}
	for _, sign := range strings.Fields("- ! ~ * & ++ --") {
		add("unary", sign)
	}
	for _, sign := range strings.Fields(levels[0]) {
		add("assigns", sign)
	}
	for i, level := range levels[1:] {
		own, tighter := "level"+strconv.Itoa(i+1), "level"+strconv.Itoa(i+2)
		if i == len(levels)-2 {
			tighter = "prefix"
		}
		add(own, tighter)
		for _, sign := range strings.Fields(level) {
			add(own, own, sign, tighter)
		}
	}
	return g
}

// state is a rule, how much of it is read, and where it began.
type state struct {
	rule *rule
	done int
	from int
}

// reader reads tokens by the grammar (Earley's way): for each number of tokens read, the states that may be. It takes no alternative ahead of another one: all are open.
type reader struct {
	rules  map[string][]rule
	tokens []api.Token
	sets   [][]state
}

func newReader() *reader {
	r := &reader{rules: grammar()}
	r.sets = [][]state{nil}
	seen := map[state]bool{}
	r.begin("program", 0, seen)
	r.complete(0, seen)
	return r
}

func (r *reader) put(n int, s state, seen map[state]bool) {
	if !seen[s] {
		seen[s] = true
		r.sets[n] = append(r.sets[n], s)
	}
}

func (r *reader) begin(left string, n int, seen map[state]bool) {
	for i := range r.rules[left] {
		r.put(n, state{&r.rules[left][i], 0, n}, seen)
	}
}

// complete adds the states that follow from those of a set.
func (r *reader) complete(n int, seen map[state]bool) {
	for i := 0; i < len(r.sets[n]); i++ {
		s := r.sets[n][i]
		if s.done == len(s.rule.right) {
			for _, above := range r.sets[s.from] {
				if above.done < len(above.rule.right) && above.rule.right[above.done] == s.rule.left {
					r.put(n, state{above.rule, above.done + 1, above.from}, seen)
				}
			}
			continue
		}
		next := s.rule.right[s.done]
		r.begin(next, n, seen)
		// A rule that reads nothing may have ended in this set before it was wanted here.
		for _, empty := range r.rules[next] {
			if len(empty.right) == 0 {
				r.put(n, state{s.rule, s.done + 1, s.from}, seen)
			}
		}
	}
}

// token reads one, and tells whether it is possible.
func (r *reader) token(t api.Token) bool {
	word := t.Text
	switch t.Kind {
	case api.Name:
		word = "name"
	case api.Number:
		word = "number"
	case api.End:
		word = "end"
	}
	n := len(r.sets)
	r.tokens = append(r.tokens, t)
	r.sets = append(r.sets, nil)
	seen := map[state]bool{}
	for _, s := range r.sets[n-1] {
		if s.done < len(s.rule.right) && s.rule.right[s.done] == word {
			r.put(n, state{s.rule, s.done + 1, s.from}, seen)
		}
	}
	r.complete(n, seen)
	return len(r.sets[n]) > 0
}

// keep forgets all tokens but the first ones.
func (r *reader) keep(n int) { r.tokens, r.sets = r.tokens[:n], r.sets[:n+1] }

// whole tells whether what is read is a program.
func (r *reader) whole() bool {
	for _, s := range r.sets[len(r.sets)-1] {
		if s.rule.left == "program" && s.from == 0 && s.done == len(s.rule.right) {
			return true
		}
	}
	return false
}

// impossible is the place in a list (with an End) of the first token that is not possible, or -1. What the list begins with like the one before is not read again.
func (r *reader) impossible(l []api.Token) int {
	same := 0
	for same < min(len(r.tokens), len(l)-1) && r.tokens[same].Kind == l[same].Kind && r.tokens[same].Text == l[same].Text {
		same++
	}
	r.keep(same)
	if len(r.sets[same]) == 0 {
		return same - 1
	}
	for i := same; i < len(l)-1; i++ {
		if !r.token(l[i]) {
			return i
		}
	}
	if !r.whole() {
		return len(l) - 1
	}
	return -1
}

// held parses tokens (with an End), and holds the answer against the grammar.
func (r *reader) held(t *testing.T, l []api.Token) {
	t.Helper()
	of, at, errno := tree.Parse(l)
	wrong := r.impossible(l)
	if wrong < 0 {
		if errno != api.OK || at != 0 {
			t.Fatalf("%s: error %d at %d; wanted none", joined(l), errno, at)
		}
		shown(t, of, true)
		return
	}
	if errno != api.ErrSyntax || at != l[wrong].At || len(of.Nodes) > 0 || len(of.Types) > 0 || of.Top != 0 {
		t.Fatalf("%s: error %d at %d, %d nodes; wanted error %d at %d (%q)", joined(l), errno, at, len(of.Nodes), api.ErrSyntax, l[wrong].At, l[wrong].Text)
	}
}

func joined(l []api.Token) string {
	var words []string
	for _, t := range l {
		words = append(words, t.Text)
	}
	return strings.Join(words, " ")
}

// vocabulary is each word and sign of the language, a name and a number.
func vocabulary() []api.Token {
	l := []api.Token{{Kind: api.Name, Text: "a"}, {Kind: api.Number, Text: "7", N: 7}}
	for _, word := range strings.Fields("break case char continue default do else for getc goto if int putc return sizeof struct switch unsigned void while") {
		l = append(l, api.Token{Kind: api.Word, Text: word})
	}
	for _, sign := range lex.Signs() {
		l = append(l, api.Token{Kind: api.Sign, Text: sign})
	}
	return l
}

// TestEachToken holds what may follow: behind each of these beginnings, each list of so many tokens that is possible up to its last one.
func TestEachToken(t *testing.T) {
	for _, c := range []struct {
		source string
		deep   int
	}{
		{"", 3}, {"struct s {", 3}, {"struct s { int a ;", 2}, {"struct s { int a [ 1 ]", 2}, {"int a =", 2}, {"int a = -", 1}, {"int a [ 1 ]", 2}, {"int f (", 2}, {"int f ( int a", 2}, {"int f ( ) {", 2},
		{"int f ( ) { a", 1}, {"int f ( ) { if ( a ) ; else", 1}, {"int f ( ) { if ( a ) ;", 1}, {"int f ( ) { do ;", 2}, {"int f ( ) { do ; while ( 1 )", 1}, {"int f ( ) { for (", 1}, {"int f ( ) { for ( ;", 1}, {"int f ( ) { for ( ; ;", 1}, {"int f ( ) { for ( ; ; )", 1},
		{"int f ( ) { switch ( a )", 2}, {"int f ( ) { case", 2}, {"int f ( ) { case - 1 :", 1}, {"int f ( ) { a :", 1}, {"int f ( ) { return", 1}, {"int f ( ) { return 1", 1}, {"int f ( ) { int a [ 1 ]", 2}, {"int f ( ) { struct s", 2},
		{"int f ( ) { ( int", 2}, {"int f ( ) { ( int ) a", 1}, {"int f ( ) { sizeof", 2}, {"int f ( ) { sizeof ( int", 2}, {"int f ( ) { sizeof ( int )", 1}, {"int f ( ) { putc ( a )", 1}, {"int f ( ) { getc (", 2}, {"int f ( ) { a ( a", 1}, {"int f ( ) { ( a )", 1}, {"int f ( ) { a (", 1}, {"int f ( ) { a ( )", 1},
		{"int f ( ) { a ? a", 1}, {"int f ( ) { a ? a : a", 1}, {"int f ( ) { a = a", 1}, {"int f ( ) { - a", 1}, {"int f ( ) { a ++", 1}, {"int f ( ) { a [ a ]", 1}, {"int f ( ) { a .", 2}, {"int f ( ) { a ->", 2}, {"int f ( ) { }", 2},
	} {
		r := newReader()
		l := scan(t, c.source)
		l = l[:len(l)-1]
		for _, token := range l {
			if !r.token(token) {
				t.Fatalf("%s: the test's beginning is not possible", c.source)
			}
		}
		eachBehind(t, r, l, c.deep+1)
	}
}

// eachBehind holds lists that go on by up to so many tokens behind those that are read.
func eachBehind(t *testing.T, r *reader, l []api.Token, deep int) {
	at := 0
	if len(l) > 0 {
		at = l[len(l)-1].At + len(l[len(l)-1].Text) + 1
	}
	end := append(l[:len(l):len(l)], api.Token{At: at})
	wanted := api.ErrSyntax
	if r.whole() {
		wanted = api.OK
	}
	if _, got, errno := tree.Parse(end); errno != wanted || errno != api.OK && got != at {
		t.Fatalf("%s: error %d at %d; wanted error %d at %d", joined(end), errno, got, wanted, at)
	}
	if deep == 0 {
		return
	}
	for _, token := range vocabulary() {
		token.At = at
		next := append(l[:len(l):len(l)], token)
		if r.token(token) {
			eachBehind(t, r, next, deep-1)
		} else if _, got, errno := tree.Parse(next); errno != api.ErrSyntax || got != at {
			t.Fatalf("%s: error %d at %d; wanted error %d at %d", joined(next), errno, got, api.ErrSyntax, at)
		}
		r.keep(len(l))
	}
}

// broad has each kind of node, with and without each part that may be missing.
const broad = `struct s { int a ; char * b [ 3 ] ; struct s * c ; } ;
int a ; unsigned b = 7 ; char c = - 7 ; struct s d [ 2 ] ; void * e = 0 ;
void f ( ) { }
int * g ( int a , struct s * b , char c ) { return ; return & a ; }
int main ( ) {
	int a ; int b = 1 ; int c [ 2 ] ; struct s d ; struct s * * e = 0 ;
	{ ; { } } a = b += c ; ; if ( a ) b ; if ( a ) if ( b ) c ; else d ; else { e ; }
	while ( a ) a -- ; do ++ a ; while ( b ) ; for ( ; ; ) break ; for ( a = 0 ; a < 9 ; a ++ ) { continue ; }
	l : goto l ; switch ( a ) { case 1 : case - 2 : ; default : break ; }
	a ? b : c ? d = 1 : e ; f ( ) ; f ( a , g ( 1 , 2 ) , c ) ; putc ( getc ( ) ) ; sizeof ( struct s * [ 4 ] ) ;
	( int ) a * ( b - - c ) [ 1 ] . d -> e ++ ; ( char * ) ( a ) ; a || b && c | d ^ e & f == g < h << i + j * - ! ~ * & k ;
	return a ;
}`

// TestTakenAway takes each token away, and what stands from it on, puts each token there twice, and changes it with the next one.
func TestTakenAway(t *testing.T) {
	l, r := scan(t, broad), newReader()
	r.held(t, l)
	for i := range len(l) - 1 {
		r.held(t, append(append([]api.Token{}, l[:i]...), l[i+1:]...))
		r.held(t, append(append([]api.Token{}, l[:i]...), l[len(l)-1]))
		r.held(t, append(append(append([]api.Token{}, l[:i+1]...), l[i]), l[i+1:]...))
		if i < len(l)-2 {
			r.held(t, append(append(append([]api.Token{}, l[:i]...), l[i+1], l[i]), l[i+2:]...))
		}
	}
}

// TestChanged holds long fixed pseudo-random changes of a source against the grammar.
func TestChanged(t *testing.T) {
	random := rand.New(rand.NewSource(4))
	base, words, r := scan(t, broad), vocabulary(), newReader()
	for range 1500 {
		from := random.Intn(len(base) - 1)
		l := append([]api.Token{}, base...)
		for range 1 + random.Intn(3) {
			i := min(from+random.Intn(30), len(l)-2)
			word := words[random.Intn(len(words))]
			word.At = l[i].At
			if random.Intn(2) == 0 {
				l[i] = word
			} else {
				l = append(l[:i], l[i+1:]...)
			}
		}
		r.held(t, l)
	}
}

func TestSyntax(t *testing.T) {
	r := newReader()
	for source, at := range map[string]int{
		"int":                              3,
		"int a":                            5,
		"int a ":                           6,
		"int a /* */":                      11,
		";":                                0,
		"a;":                               0,
		"int;":                             3,
		"int int a;":                       4,
		"unsigned int a;":                  9,
		"int a,b;":                         5,
		"int a=b;":                         6,
		"int a=--1;":                       6,
		"int a=- -1;":                      8,
		"int a=+1;":                        6,
		"int a=1+1;":                       7,
		"int a=(1);":                       6,
		"int a[];":                         6,
		"int a[-1];":                       6,
		"int a[b];":                        6,
		"int a[1][2];":                     8,
		"int a[1](){}":                     8,
		"struct{int a;};":                  6,
		"struct s;":                        8,
		"struct s{};":                      9,
		"struct s{int a};":                 14,
		"struct s{int a;}":                 16,
		"struct s{int a;}b;":               16,
		"struct s{int a=1;};":              14,
		"struct s{int a,b;};":              14,
		"struct s{struct t{int a;};};":     17,
		"int f();":                         7,
		"int f(void){}":                    10,
		"int f(int){}":                     9,
		"int f(int a,){}":                  12,
		"int f(,int a){}":                  6,
		"int f(int a[2]){}":                11,
		"int f(int a int b){}":             12,
		"int f(){}}":                       9,
		"int f(){};":                       9,
		"int f()return 1;":                 7,
		"int main(){return (;}":            19,
		"int main(){if(a)b;else}":          22,
		"int main(){else;}":                11,
		"int main(){if a;}":                14,
		"int main(){if();}":                14,
		"int main(){if(a)}":                16,
		"int main(){while()a;}":            17,
		"int main(){do a while(b);}":       16,
		"int main(){do a;while(b)}":        24,
		"int main(){do a;b;}":              16,
		"int main(){for(;);}":              16,
		"int main(){for(int a;;);}":        15,
		"int main(){for(;;;);}":            17,
		"int main(){for(;;)}":              18,
		"int main(){break a;}":             17,
		"int main(){goto;}":                15,
		"int main(){goto 1;}":              16,
		"int main(){a:}":                   13,
		"int main(){1:;}":                  12,
		"int main(){(a):;}":                14,
		"int main(){switch(a);}":           20,
		"int main(){switch(a)case 1:;}":    20,
		"int main(){switch(){}}":           18,
		"int main(){case a:;}":             16,
		"int main(){case 1+1:;}":           17,
		"int main(){case (1):;}":           16,
		"int main(){case:;}":               15,
		"int main(){default 1:;}":          19,
		"int main(){default:}":             19,
		"int main(){int a,b;}":             16,
		"int main(){int a b;}":             17,
		"int main(){int;}":                 14,
		"int main(){int a=;}":              17,
		"int main(){int a()}":              16,
		"int main(){int f(){}}":            16,
		"int main(){struct s{int a;}b;}":   19,
		"int main(){a,b;}":                 12,
		"int main(){a b;}":                 13,
		"int main(){1 2;}":                 13,
		"int main(){+a;}":                  11,
		"int main(){a+;}":                  13,
		"int main(){a=;}":                  13,
		"int main(){a?b;}":                 14,
		"int main(){a?:b;}":                13,
		"int main(){a?b:;}":                15,
		"int main(){();}":                  12,
		"int main(){(a;}":                  13,
		"int main(){(int)}":                16,
		"int main(){(int[2])a;}":           15,
		"int main(){(int)int;}":            16,
		"int main(){(a)(b);}":              14,
		"int main(){a(b)(c);}":             15,
		"int main(){a[];}":                 13,
		"int main(){a[b;}":                 14,
		"int main(){a.1;}":                 13,
		"int main(){a.(b);}":               13,
		"int main(){a->;}":                 14,
		"int main(){a(b,);}":               15,
		"int main(){a(,b);}":               13,
		"int main(){a(b c);}":              15,
		"int main(){a(int);}":              13,
		"int main(){sizeof a;}":            18,
		"int main(){sizeof(a);}":           18,
		"int main(){sizeof(1);}":           18,
		"int main(){sizeof(int[]);}":       22,
		"int main(){sizeof(int[2][3]);}":   24,
		"int main(){sizeof(int)[2];}":      22,
		"int main(){sizeof(int)++;}":       22,
		"int main(){getc(a);}":             16,
		"int main(){getc;}":                15,
		"int main(){putc();}":              16,
		"int main(){putc(a,b);}":           17,
		"int main(){putc a;}":              16,
		"int main(){int}":                  14,
		"int main(){":                      11,
		"int main(){a;":                    13,
		"int main(){{}":                    13,
		"int main(){a":                     12,
		"int main(){(int*)unsigned a;}":    17,
		"int main(){return return;}":       18,
		"int main(){a = = b;}":             15,
		"int main(){a ! b;}":               13,
		"int main(){a~b;}":                 12,
		"int main(){a ++b;}":               15,
		"int main(){]}":                    11,
		"int main(){struct a;}":            19,
		"int main(){struct s*(a);}":        20,
		"struct 1{int a;};":                7,
		"int main(){(struct){a;}}":         18,
		"int main(){a ? b : c : d;}":       21,
		"int 1;":                           4,
		"int* *;":                          6,
		"* int a;":                         0,
		"int main(){if(a)else;}":           16,
		"int main(){if(a);else;else;}":     22,
		"int main(){while(a);else;}":       20,
		"int main(){do;while(a)b;}":        22,
		"int main(){case - - 1:;}":         18,
		"int main(){a=b?c;}":               16,
		"int main(){a->b->1;}":             17,
		"int main(){return a b;}":          20,
		"int main(){a:b:int:;}":            18,
		"int main(){{{{{}}}}}}":            20,
		"int main(){continue}":             19,
		"int main(){sizeof(int a);}":       22,
		"int main(){sizeof(struct *);}":    25,
		"int main(){(char)(int);}":         22,
		"int f(int a){}int g(struct){}":    26,
		"int f(struct s a){}int g(int*){}": 29,
	} {
		refused(t, source, at, api.ErrSyntax)
		r.held(t, scan(t, source))
	}
}

// TestWithoutEnd holds lists without an End, with one in their midst, and with more than one.
func TestWithoutEnd(t *testing.T) {
	r := newReader()
	for _, source := range []string{"", "int a;", "struct s{int a;};int main(){return 1;}", broad} {
		l := scan(t, source)
		with, at, errno := tree.Parse(l)
		without, atWithout, errnoWithout := tree.Parse(l[:len(l)-1])
		if at != 0 || errno != api.OK || atWithout != 0 || errnoWithout != api.OK || shown(t, with, true) != shown(t, without, true) {
			t.Errorf("%.50q without an End: error %d at %d", source, errnoWithout, atWithout)
		}
		for i := range l {
			cut := l[:i]
			wanted := api.OK
			if r.impossible(append(cut[:i:i], api.Token{})) >= 0 {
				wanted = api.ErrSyntax
			}
			if of, _, errno := tree.Parse(cut); errno != wanted || errno != api.OK && len(of.Nodes)+len(of.Types)+of.Top != 0 {
				t.Fatalf("%s without an End: error %d; wanted error %d", joined(cut), errno, wanted)
			}
			if wanted == api.OK {
				continue
			}
			// An End in the midst of what is not a program yet.
			midst := append(append(cut[:i:i], api.Token{At: l[i].At}), l[i:]...)
			if of, at, errno := tree.Parse(midst); errno != api.ErrSyntax || at != l[i].At || len(of.Nodes)+len(of.Types)+of.Top != 0 {
				t.Fatalf("%s and an End in the midst: error %d at %d; wanted error %d at %d", joined(cut), errno, at, api.ErrSyntax, l[i].At)
			}
		}
	}
	for i, l := range [][]api.Token{nil, {}, {{}}, {{At: 5}}} {
		if of, at, errno := tree.Parse(l); at != 0 || errno != api.OK || shown(t, of, true) != "[]" || of.Top != -1 || len(of.Types) != 4 {
			t.Errorf("list %d without a token: error %d at %d, %v", i, errno, at, of)
		}
	}
}
