package tree_test

import (
	"reflect"
	"strings"
	"testing"

	"doppel/api"
	"doppel/lex"
	"doppel/tree"
)

func TestExample(t *testing.T) {
	want := "[(Function@0 main <int> [] (Block@10 [(Give@11 (Binary@19 + (Num@18 1) (Binary@21 * (Num@20 2) (Num@22 3))))]))]"
	if got := shown(t, read(t, "int main(){return 1+2*3;}"), true); got != want {
		t.Errorf("got %s\nwanted %s", got, want)
	}
}

func TestWholes(t *testing.T) {
	for source, want := range map[string]string{
		"":                            "[]",
		" \t\n/* nothing */ // here":  "[]",
		"int a;":                      "[(Whole@0 a 0 <int>)]",
		" unsigned a = 7 ;":           "[(Whole@1 a 7 <unsigned>)]",
		"char a=-7;":                  "[(Whole@0 a -7 <char>)]",
		"int a= - /**/ 7;":            "[(Whole@0 a -7 <int>)]",
		"int a=-0;":                   "[(Whole@0 a 0 <int>)]",
		"int a='A';":                  "[(Whole@0 a 65 <int>)]",
		"unsigned a=4294967295;":      "[(Whole@0 a 4294967295 <unsigned>)]",
		"unsigned a=-0xffffffff;":     "[(Whole@0 a -4294967295 <unsigned>)]",
		"void a;":                     "[(Whole@0 a 0 <void>)]",
		"int a[3];":                   "[(Whole@0 a 0 <int[3]>)]",
		"int a[3]=-5;":                "[(Whole@0 a -5 <int[3]>)]",
		"int a[0];":                   "[(Whole@0 a 0 <int[0]>)]",
		"int a[4294967295u];":         "[(Whole@0 a 0 <int[4294967295]>)]",
		"struct s a;":                 "[(Whole@0 a 0 <struct s>)]",
		"struct s*a;":                 "[(Whole@0 a 0 <struct s*>)]",
		"struct s*a[2];":              "[(Whole@0 a 0 <struct s*[2]>)]",
		"char * * *a;":                "[(Whole@0 a 0 <char***>)]",
		"int a;int a;":                "[(Whole@0 a 0 <int>) (Whole@6 a 0 <int>)]",
		"void f(){}":                  "[(Function@0 f <void> [] (Block@8 []))]",
		" int * f ( ) { }":            "[(Function@1 f <int*> [] (Block@13 []))]",
		"struct s f(){}":              "[(Function@0 f <struct s> [] (Block@12 []))]",
		"int f(int a){}":              "[(Function@0 f <int> [(Param@6 a <int>)] (Block@12 []))]",
		"int f(int a,struct s*b){;}":  "[(Function@0 f <int> [(Param@6 a <int>) (Param@12 b <struct s*>)] (Block@23 [(Empty@24)]))]",
		"struct s{int a;};":           "[(Structure@0 s [(Param@9 a <int>)])]",
		"struct s{int a;char*b[2];};": "[(Structure@0 s [(Param@9 a <int>) (Param@15 b <char*[2]>)])]",
		"struct s{struct s*s;};struct s s;int s(){}": "[(Structure@0 s [(Param@9 s <struct s*>)]) (Whole@22 s 0 <struct s>) (Function@33 s <int> [] (Block@40 []))]",
		"int f(int a,int b,int c,int d,int e,int f,int g){}": "[(Function@0 f <int> [(Param@6 a <int>) (Param@12 b <int>) (Param@18 c <int>) (Param@24 d <int>) " +
			"(Param@30 e <int>) (Param@36 f <int>) (Param@42 g <int>)] (Block@48 []))]",
	} {
		if got := shown(t, read(t, source), true); got != want {
			t.Errorf("%q:\ngot    %s\nwanted %s", source, got, want)
		}
	}
}

func TestStatements(t *testing.T) {
	for source, want := range map[string]string{
		"":                            "[]",
		";":                           "[(Empty@0)]",
		" ; ;":                        "[(Empty@1) (Empty@3)]",
		"a;":                          "[(Do@0 (Var@0 a))]",
		"(a);":                        "[(Do@0 (Var@1 a))]",
		"((a)+b);":                    "[(Do@0 (Binary@4 + (Var@2 a) (Var@5 b)))]",
		"{}":                          "[(Block@0 [])]",
		"{;{a;}}b;":                   "[(Block@0 [(Empty@1) (Block@2 [(Do@3 (Var@3 a))])]) (Do@7 (Var@7 b))]",
		"if(a)b;":                     "[(If@0 (Var@3 a) (Do@5 (Var@5 b)) -)]",
		"if(a)b;else c;":              "[(If@0 (Var@3 a) (Do@5 (Var@5 b)) (Do@12 (Var@12 c)))]",
		"if((a))int b;":               "[(If@0 (Var@4 a) (Local@7 b <int> -) -)]",
		"if(a)if(b)c;else d;":         "[(If@0 (Var@3 a) (If@5 (Var@8 b) (Do@10 (Var@10 c)) (Do@17 (Var@17 d))) -)]",
		"if(a)if(b)c;else d;else e;":  "[(If@0 (Var@3 a) (If@5 (Var@8 b) (Do@10 (Var@10 c)) (Do@17 (Var@17 d))) (Do@24 (Var@24 e)))]",
		"if(a){if(b)c;}else d;":       "[(If@0 (Var@3 a) (Block@5 [(If@6 (Var@9 b) (Do@11 (Var@11 c)) -)]) (Do@19 (Var@19 d)))]",
		"if(a)while(b)if(c)d;else e;": "[(If@0 (Var@3 a) (While@5 (Var@11 b) (If@13 (Var@16 c) (Do@18 (Var@18 d)) (Do@25 (Var@25 e)))) -)]",
		"if(a);else if(b);else c;":    "[(If@0 (Var@3 a) (Empty@5) (If@11 (Var@14 b) (Empty@16) (Do@22 (Var@22 c))))]",
		"while(a)b;":                  "[(While@0 (Var@6 a) (Do@8 (Var@8 b)))]",
		"do a;while(b);":              "[(DoWhile@0 (Var@11 b) (Do@3 (Var@3 a)))]",
		"do;while(a);while(b);":       "[(DoWhile@0 (Var@9 a) (Empty@2)) (While@12 (Var@18 b) (Empty@20))]",
		"do while(a);while(b);":       "[(DoWhile@0 (Var@18 b) (While@3 (Var@9 a) (Empty@11)))]",
		"for(;;);":                    "[(For@0 - - - (Empty@7))]",
		"for(a;;);":                   "[(For@0 (Var@4 a) - - (Empty@8))]",
		"for(;a;);":                   "[(For@0 - (Var@5 a) - (Empty@8))]",
		"for(;;a);":                   "[(For@0 - - (Var@6 a) (Empty@8))]",
		"for(a=1;b;c++)d;":            "[(For@0 (Assign@5 = (Var@4 a) (Num@6 1)) (Var@8 b) (After@11 ++ (Var@10 c)) (Do@14 (Var@14 d)))]",
		"break;":                      "[(Break@0)]",
		"continue;":                   "[(Continue@0)]",
		"return;":                     "[(Give@0 -)]",
		"return a;":                   "[(Give@0 (Var@7 a))]",
		"return(a);":                  "[(Give@0 (Var@7 a))]",
		"goto a;":                     "[(Goto@0 a)]",
		"a:;":                         "[(Label@0 a (Empty@2))]",
		"a:b:c;":                      "[(Label@0 a (Label@2 b (Do@4 (Var@4 c))))]",
		"a : int b;":                  "[(Label@0 a (Local@4 b <int> -))]",
		"a?b:c;":                      "[(Do@0 (Cond@1 (Var@0 a) (Var@2 b) (Var@4 c)))]",
		"switch(a){}":                 "[(Switch@0 (Var@7 a) (Block@9 []))]",
		"switch(a){case 1:b;default:c;case 2:;break;}": "[(Switch@0 (Var@7 a) (Block@9 [(Case@10 1 (Do@17 (Var@17 b))) (Default@19 (Do@27 (Var@27 c))) (Case@29 2 (Empty@36)) (Break@37)]))]",
		"case -5:;":                       "[(Case@0 -5 (Empty@8))]",
		"case - 5 :;":                     "[(Case@0 -5 (Empty@10))]",
		"case -0:;":                       "[(Case@0 0 (Empty@8))]",
		"case-4294967295:;":               "[(Case@0 -4294967295 (Empty@16))]",
		"case 'a':;":                      "[(Case@0 97 (Empty@9))]",
		"case 1:case 1:default:default:;": "[(Case@0 1 (Case@7 1 (Default@14 (Default@22 (Empty@30)))))]",
		"int a;":                          "[(Local@0 a <int> -)]",
		"int a=b=c;":                      "[(Local@0 a <int> (Assign@7 = (Var@6 b) (Var@8 c)))]",
		"int a=-1;":                       "[(Local@0 a <int> (Unary@6 - (Num@7 1)))]",
		"int*a[3];":                       "[(Local@0 a <int*[3]> -)]",
		"int a[3]=b;":                     "[(Local@0 a <int[3]> (Var@9 b))]",
		"struct s a;":                     "[(Local@0 a <struct s> -)]",
		"void**a=0;unsigned b;char c;":    "[(Local@0 a <void**> (Num@8 0)) (Local@10 b <unsigned> -) (Local@21 c <char> -)]",
		"putc(a);":                        "[(Do@0 (Out@0 (Var@5 a)))]",
		"getc();":                         "[(Do@0 (In@0))]",
		"sizeof(int);":                    "[(Do@0 (Sizeof@0 <int>))]",
		"*a=b;":                           "[(Do@0 (Assign@2 = (Unary@0 * (Var@1 a)) (Var@3 b)))]",
	} {
		if got := inside(t, source); got != want {
			t.Errorf("%q:\ngot    %s\nwanted %s", source, got, want)
		}
	}
}

func TestExpressions(t *testing.T) {
	for source, want := range map[string]string{
		"0":                      "(Num@0 0)",
		"0x1fU":                  "(Num@0 31)",
		"'\\n'":                  "(Num@0 10)",
		"4294967295":             "(Num@0 4294967295)",
		"a":                      "(Var@0 a)",
		"-a":                     "(Unary@0 - (Var@1 a))",
		"!a":                     "(Unary@0 ! (Var@1 a))",
		"~a":                     "(Unary@0 ~ (Var@1 a))",
		"*a":                     "(Unary@0 * (Var@1 a))",
		"&a":                     "(Unary@0 & (Var@1 a))",
		"- -!~*&a":               "(Unary@0 - (Unary@2 - (Unary@3 ! (Unary@4 ~ (Unary@5 * (Unary@6 & (Var@7 a)))))))",
		"++a":                    "(Before@0 ++ (Var@2 a))",
		"--a":                    "(Before@0 -- (Var@2 a))",
		"- --a":                  "(Unary@0 - (Before@2 -- (Var@4 a)))",
		"a++":                    "(After@1 ++ (Var@0 a))",
		"a--":                    "(After@1 -- (Var@0 a))",
		"a++--":                  "(After@3 -- (After@1 ++ (Var@0 a)))",
		"++a++":                  "(Before@0 ++ (After@3 ++ (Var@2 a)))",
		"*a++":                   "(Unary@0 * (After@2 ++ (Var@1 a)))",
		"(*a)++":                 "(After@4 ++ (Unary@1 * (Var@2 a)))",
		"a[b]":                   "(Index@1 (Var@0 a) (Var@2 b))",
		"a[b=c]":                 "(Index@1 (Var@0 a) (Assign@3 = (Var@2 b) (Var@4 c)))",
		"a[b][c]":                "(Index@4 (Index@1 (Var@0 a) (Var@2 b)) (Var@5 c))",
		"1[a]":                   "(Index@1 (Num@0 1) (Var@2 a))",
		"-a[b]":                  "(Unary@0 - (Index@2 (Var@1 a) (Var@3 b)))",
		"(-a)[b]":                "(Index@4 (Unary@1 - (Var@2 a)) (Var@5 b))",
		"a.b":                    "(Member@1 b 0 (Var@0 a))",
		"a->b":                   "(Member@1 b 1 (Var@0 a))",
		"a.b->c.d":               "(Member@6 d 0 (Member@3 c 1 (Member@1 b 0 (Var@0 a))))",
		"a[1].b[2]->c":           "(Member@9 c 1 (Index@6 (Member@4 b 0 (Index@1 (Var@0 a) (Num@2 1))) (Num@7 2)))",
		"a(1)[2].b++":            "(After@9 ++ (Member@7 b 0 (Index@4 (Calls@0 a [(Num@2 1)]) (Num@5 2))))",
		"&a.b":                   "(Unary@0 & (Member@2 b 0 (Var@1 a)))",
		"a ()":                   "(Calls@0 a [])",
		"a(b)":                   "(Calls@0 a [(Var@2 b)])",
		"a(b+c,d=e,f())":         "(Calls@0 a [(Binary@3 + (Var@2 b) (Var@4 c)) (Assign@7 = (Var@6 d) (Var@8 e)) (Calls@10 f [])])",
		"a((b))":                 "(Calls@0 a [(Var@3 b)])",
		"a(a(a(1),2),3)":         "(Calls@0 a [(Calls@2 a [(Calls@4 a [(Num@6 1)]) (Num@9 2)]) (Num@12 3)])",
		"getc()":                 "(In@0)",
		"getc ( ) + 1":           "(Binary@9 + (In@0) (Num@11 1))",
		"getc()[1]":              "(Index@6 (In@0) (Num@7 1))",
		"putc(a=b)":              "(Out@0 (Assign@6 = (Var@5 a) (Var@7 b)))",
		"putc(1).a":              "(Member@7 a 0 (Out@0 (Num@5 1)))",
		"(int)a":                 "(Cast@0 <int> (Var@5 a))",
		"(int*)(a)":              "(Cast@0 <int*> (Var@7 a))",
		"(struct s**)a":          "(Cast@0 <struct s**> (Var@12 a))",
		"(void)(char)-a":         "(Cast@0 <void> (Cast@6 <char> (Unary@12 - (Var@13 a))))",
		"(int)a[b]":              "(Cast@0 <int> (Index@6 (Var@5 a) (Var@7 b)))",
		"(int)a+b":               "(Binary@6 + (Cast@0 <int> (Var@5 a)) (Var@7 b))",
		"(unsigned)a=b":          "(Assign@11 = (Cast@0 <unsigned> (Var@10 a)) (Var@12 b))",
		"((int)a)++":             "(After@8 ++ (Cast@1 <int> (Var@6 a)))",
		"(a)-b":                  "(Binary@3 - (Var@1 a) (Var@4 b))",
		"(a)*b":                  "(Binary@3 * (Var@1 a) (Var@4 b))",
		"(a)&b":                  "(Binary@3 & (Var@1 a) (Var@4 b))",
		"((a))":                  "(Var@2 a)",
		"sizeof(char)":           "(Sizeof@0 <char>)",
		"sizeof(int[3])":         "(Sizeof@0 <int[3]>)",
		"sizeof(struct s*[7])*a": "(Binary@20 * (Sizeof@0 <struct s*[7]>) (Var@21 a))",
		"-sizeof(void**)":        "(Unary@0 - (Sizeof@1 <void**>))",
		"(int)sizeof(int)":       "(Cast@0 <int> (Sizeof@5 <int>))",
		"(sizeof(int))[a]":       "(Index@13 (Sizeof@1 <int>) (Var@14 a))",
		"a=b":                    "(Assign@1 = (Var@0 a) (Var@2 b))",
		"a=b+=c":                 "(Assign@1 = (Var@0 a) (Assign@3 += (Var@2 b) (Var@5 c)))",
		"(a=b)=c":                "(Assign@5 = (Assign@2 = (Var@1 a) (Var@3 b)) (Var@6 c))",
		"a+b=c":                  "(Assign@3 = (Binary@1 + (Var@0 a) (Var@2 b)) (Var@4 c))",
		"a=b?c:d":                "(Assign@1 = (Var@0 a) (Cond@3 (Var@2 b) (Var@4 c) (Var@6 d)))",
		"a?b:c":                  "(Cond@1 (Var@0 a) (Var@2 b) (Var@4 c))",
		"(a)?b:c":                "(Cond@3 (Var@1 a) (Var@4 b) (Var@6 c))",
		"a?b=c:d":                "(Cond@1 (Var@0 a) (Assign@3 = (Var@2 b) (Var@4 c)) (Var@6 d))",
		"a?b:c?d:e":              "(Cond@1 (Var@0 a) (Var@2 b) (Cond@5 (Var@4 c) (Var@6 d) (Var@8 e)))",
		"(a?b:c)?d:e":            "(Cond@7 (Cond@2 (Var@1 a) (Var@3 b) (Var@5 c)) (Var@8 d) (Var@10 e))",
		"a?b?c:d:e":              "(Cond@1 (Var@0 a) (Cond@3 (Var@2 b) (Var@4 c) (Var@6 d)) (Var@8 e))",
		"a?b:c=d":                "(Assign@5 = (Cond@1 (Var@0 a) (Var@2 b) (Var@4 c)) (Var@6 d))",
		"a?b:(c=d)":              "(Cond@1 (Var@0 a) (Var@2 b) (Assign@6 = (Var@5 c) (Var@7 d)))",
		"a||b?c:d":               "(Cond@4 (Binary@1 || (Var@0 a) (Var@3 b)) (Var@5 c) (Var@7 d))",
		"a?b:c||d":               "(Cond@1 (Var@0 a) (Var@2 b) (Binary@5 || (Var@4 c) (Var@7 d)))",
		"-a*b":                   "(Binary@2 * (Unary@0 - (Var@1 a)) (Var@3 b))",
		"a*-b":                   "(Binary@1 * (Var@0 a) (Unary@2 - (Var@3 b)))",
		"a- -b":                  "(Binary@1 - (Var@0 a) (Unary@3 - (Var@4 b)))",
		"a---b":                  "(Binary@3 - (After@1 -- (Var@0 a)) (Var@4 b))",
		"a+++b":                  "(Binary@3 + (After@1 ++ (Var@0 a)) (Var@4 b))",
		"a&&&b":                  "(Binary@1 && (Var@0 a) (Unary@3 & (Var@4 b)))",
		"!a==b":                  "(Binary@2 == (Unary@0 ! (Var@1 a)) (Var@4 b))",
	} {
		if got := alone(t, source); got != want {
			t.Errorf("%q:\ngot    %s\nwanted %s", source, got, want)
		}
	}
}

// levels is the binary operators, from the weakest binding on; those of the first level group from the right, all others from the left.
var levels = []string{"= += -= *= /= %= &= |= ^= <<= >>=", "||", "&&", "|", "^", "&", "== !=", "< <= > >=", "<< >>", "+ -", "* / %"}

// TestLevels holds each two operators that follow one another.
func TestLevels(t *testing.T) {
	kind := func(level int) string {
		if level == 0 {
			return "Assign"
		}
		return "Binary"
	}
	for i, first := range levels {
		for j, second := range levels {
			for _, x := range strings.Fields(first) {
				for _, y := range strings.Fields(second) {
					of := read(t, opening+"a "+x+" b "+y+" c;}")
					want := "(" + kind(j) + " " + y + " (" + kind(i) + " " + x + " (Var a) (Var b)) (Var c))"
					if i < j || i == 0 && j == 0 {
						want = "(" + kind(i) + " " + x + " (Var a) (" + kind(j) + " " + y + " (Var b) (Var c)))"
					}
					if got := shown(t, of, false); !strings.Contains(got, "(Do "+want+")") {
						t.Errorf("a %s b %s c: %s; wanted %s", x, y, got, want)
					}
				}
			}
		}
	}
}

// TestLevelsBesideOthers holds each binary operator against ?:, prefix and postfix operators, and casts.
func TestLevelsBesideOthers(t *testing.T) {
	for i, level := range levels {
		for _, x := range strings.Fields(level) {
			sources := map[string]string{
				"-a " + x + " -b":             "(Binary " + x + " (Unary - (Var a)) (Unary - (Var b)))",
				"(int)a " + x + " (int)b":     "(Binary " + x + " (Cast <int> (Var a)) (Cast <int> (Var b)))",
				"a++ " + x + " ++b":           "(Binary " + x + " (After ++ (Var a)) (Before ++ (Var b)))",
				"a[1] " + x + " b.c":          "(Binary " + x + " (Index (Var a) (Num 1)) (Member c 0 (Var b)))",
				"a " + x + " sizeof(int)":     "(Binary " + x + " (Var a) (Sizeof <int>))",
				"(a " + x + " b)." + "c":      "(Member c 0 (Binary " + x + " (Var a) (Var b)))",
				"-(a " + x + " b)":            "(Unary - (Binary " + x + " (Var a) (Var b)))",
				"c?d " + x + " a:b":           "(Cond (Var c) (Binary " + x + " (Var d) (Var a)) (Var b))",
				"a " + x + " b?c:d":           "(Cond (Binary " + x + " (Var a) (Var b)) (Var c) (Var d))",
				"a?b:c " + x + " d":           "(Cond (Var a) (Var b) (Binary " + x + " (Var c) (Var d)))",
				"a " + x + " (b " + x + " c)": "(Binary " + x + " (Var a) (Binary " + x + " (Var b) (Var c)))",
				"(a " + x + " b) " + x + " c": "(Binary " + x + " (Binary " + x + " (Var a) (Var b)) (Var c))",
			}
			if i == 0 {
				sources["a "+x+" b?c:d"] = "(Binary " + x + " (Var a) (Cond (Var b) (Var c) (Var d)))"
				sources["a?b:c "+x+" d"] = "(Binary " + x + " (Cond (Var a) (Var b) (Var c)) (Var d))"
			}
			for source, want := range sources {
				if i == 0 {
					want = strings.ReplaceAll(want, "Binary", "Assign")
				}
				if got := shown(t, read(t, opening+source+";}"), false); !strings.Contains(got, "(Do "+want+")") {
					t.Errorf("%s: %s; wanted %s", source, got, want)
				}
			}
		}
	}
}

func TestTypes(t *testing.T) {
	first := []api.Type{{Kind: api.Void}, {Kind: api.Int}, {Kind: api.Unsigned}, {Kind: api.Char}}
	for source, want := range map[string][]api.Type{
		"":                            nil,
		"int a;char b;unsigned c;":    nil,
		"int*a;":                      {{Kind: api.Pointer, Elem: 1}},
		"int***a;":                    {{Kind: api.Pointer, Elem: 1}, {Kind: api.Pointer, Elem: 4}, {Kind: api.Pointer, Elem: 5}},
		"int*a;int**b;int*c;":         {{Kind: api.Pointer, Elem: 1}, {Kind: api.Pointer, Elem: 4}},
		"void*a;char*b;void*c;":       {{Kind: api.Pointer}, {Kind: api.Pointer, Elem: 3}},
		"int a[3];int b[2];int c[3];": {{Kind: api.Array, Elem: 1, N: 3}, {Kind: api.Array, Elem: 1, N: 2}},
		"struct t*a;struct s b;struct t c;struct t*d[5];": {{Kind: api.Struct, Name: "t"}, {Kind: api.Pointer, Elem: 4}, {Kind: api.Struct, Name: "s"}, {Kind: api.Array, Elem: 5, N: 5}},
		"char*f(int*a,int**b){unsigned*c=(char*)(char**)sizeof(int[2]);int*d;sizeof(unsigned*[2]);}": {{Kind: api.Pointer, Elem: 3}, {Kind: api.Pointer, Elem: 1}, {Kind: api.Pointer, Elem: 5},
			{Kind: api.Pointer, Elem: 2}, {Kind: api.Pointer, Elem: 4}, {Kind: api.Array, Elem: 1, N: 2}, {Kind: api.Array, Elem: 7, N: 2}},
	} {
		of := read(t, source)
		shown(t, of, true)
		if all := append(append([]api.Type{}, first...), want...); !reflect.DeepEqual(of.Types, all) {
			t.Errorf("%q: types %v; wanted %v", source, of.Types, all)
		}
	}
}

// TestRead holds Read against Scan and Parse.
func TestRead(t *testing.T) {
	for source, want := range map[string]struct {
		at    int
		errno api.Errno
	}{
		"int a@;":                        {5, api.ErrChar},
		"int main(){return 1;":           {20, api.ErrSyntax},
		"int main(){return 1; /*":        {21, api.ErrChar},
		"int main(){return 1y;}":         {18, api.ErrNumber},
		"int main(){return 08;}":         {0, api.OK},
		"a b c '":                        {6, api.ErrChar},
		"} 4294967296":                   {2, api.ErrNumber},
		"}" + strings.Repeat(" ", 1<<15): {0, api.ErrLong},
		strings.Repeat("} ", 8193):       {16384, api.ErrLong},
		strings.Repeat("} ", 8192):       {0, api.ErrSyntax},
		strings.Repeat("int a", 3276):    {9, api.ErrSyntax},
	} {
		if want.errno == api.OK {
			read(t, source)
			continue
		}
		refused(t, source, want.at, want.errno)
		tokens, at, errno := lex.Scan(source)
		if errno == api.OK {
			_, at, errno = tree.Parse(tokens)
		}
		if at != want.at || errno != want.errno {
			t.Errorf("Scan and Parse of %.100q: error %d at %d; wanted error %d at %d", source, errno, at, want.errno, want.at)
		}
	}
}
