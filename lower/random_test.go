package lower_test

import (
	"bytes"
	"math/rand"
	"strings"
	"testing"

	"doppel/api"
)

// grower makes sources at random. In its texts, capitals become other texts, down to a depth: E an expression, V what may be changed, S a statement, T one in a loop, U one in a switch, L a label, G a label's name.
type grower struct {
	*rand.Rand
	labels int // of the function
}

const leaves = "0|1|2|3|97|255|-1|2147483647|4294967295|a|a|b|b|u|c|m|n|g|h|w[1]|q[2]|v.one|v.two|r->row[1]|z.one|getc()"

const expressions = "(E+E)|(E - E)|(E*E)|(E/(E|1))|(E%(E|1))|(E/E)|(E&E)|(E|E)|(E^E)|(E<<E)|(E>>E)|(E<E)|(E<=E)|(E>E)|(E>=E)|(E==E)|(E!=E)|(E&&E)|(E&&E)|(E||E)|(E||E)|(E?E:E)|(E?E:E)|(- E)|(~E)|(!E)|((char)E)|((unsigned)E)|((int)E)|" +
	"(V=E)|(V=E)|(V=V)|(V+=E)|(V-=E)|(V*=E)|(V<<=E)|(V>>=E)|(V&=E)|(V|=E)|(V^=E)|(V/=(E|1))|(V%=E)|(V++)|(V--)|(++V)|(--V)|putc(E)|putc(E)|putc(97+(E&7))|getc()|" +
	"f(E,E)|f(E,E)|o(E)|y()|j(E,E,E,E,E,E)|((r=E?&v:&z)->one)|(r==&z)|(r-&v)|((int)r)|(*(int*)E)|(*(r->row+(E&1)))|sizeof(struct s)"

const objects = "a|a|b|b|u|c|m|n|g|h|w[E&3]|q[E&1]|v.one|v.two|v.row[E&1]|r->one|r->two|r->row[1]|z.one|(*&m)|(*&n)|(*(w+(E&3)))"

const statements = "E;|E;|E;|V=E;|putc(E);|;|{SSS}|{int d=E;S a+=d;}|{int d[2];d[1]=E;S b=d[1];}|if(E){S}|if(E){SS}else{S}|if(E)if(E){S}else{S}|" +
	"while(k-->0&&E){TT}|do{TT}while(k-->0&&E);|for(E;k-->0;E){TT}|for(;E;){T if(k--<0)break;T}|for(E;;){if(k--<0)break;TT}|while(E){T if(k--<0)goto G;}|" +
	"switch(E&3){U case 0:U U case 1:U break;default:U case 2:U}|switch(E){U while(k-->0){T case 0:T}case 1:U}|switch(E){case 97:U case 98:U case -1:U break;case 1:U}|switch(E&15){case 1:case 2:U case 3:U case 4:case 5:case 6:U break;case 7:case 8:U case 9:case 10:U}|" +
	"L S|L{S}|if(k-->0)goto G;|if(E)return E;|put(E);"

// choices are what a letter may become.
func choices(letter rune, depth int) string {
	switch {
	case letter == 'E' && depth <= 0:
		return leaves
	case letter == 'E':
		return expressions
	case letter == 'V' && depth <= 0:
		return "a|b|u|c|m|n|g"
	case letter == 'V':
		return objects
	case depth <= 0:
		return "E;"
	case letter == 'T':
		return strings.NewReplacer("S", "T", "U", "T").Replace(statements) + "|break;|continue;|if(E)break;|if(E)continue;"
	case letter == 'U':
		return strings.ReplaceAll(statements, "S", "U") + "|break;|if(E)break;"
	}
	return statements
}

func (g *grower) grow(text string, depth int) string {
	var out strings.Builder
	for _, letter := range text {
		switch {
		case letter < 'A' || letter > 'Z':
			out.WriteRune(letter)
		case letter == 'G':
			out.WriteString("x" + number(g.Intn(3)))
		case letter == 'L':
			if g.labels < 3 {
				out.WriteString("x" + number(g.labels) + ":")
				g.labels++
			}
		default:
			// A bar is an operator, too: choices are apart where no bracket is open.
			l := apart(choices(letter, depth))
			out.WriteString(g.grow(l[g.Intn(len(l))], depth-1))
		}
	}
	return out.String()
}

// apart splits a text at the bars that are not in brackets.
func apart(text string) []string {
	var l []string
	open, begin := 0, 0
	for at, letter := range text {
		switch letter {
		case '(', '[', '{':
			open++
		case ')', ']', '}':
			open--
		case '|':
			if open == 0 {
				l = append(l, text[begin:at])
				begin = at + 1
			}
		}
	}
	return append(l, text[begin:])
}

// function is a function that has all variables, those of its head among them.
func (g *grower) function(head, before string) string {
	g.labels = 0
	body := g.grow("SSS", 3)
	end := ""
	for ; g.labels < 3; g.labels++ {
		end += "x" + number(g.labels) + ":;"
	}
	size := []int{4, 4, 700, 1000}[g.Intn(4)]
	return head + "{" + before + "int w[" + number(size) + "];struct s v;struct s*r=&v;&m;&n;" + body + end + g.grow("return E;}", 3)
}

// source is one with functions that call one another, as long as a counter allows it.
func (g *grower) source() string {
	const some = "if(k--<0)return 1;"
	l := []string{
		"void put(int n){putc('<');putc(n);putc('>');}",
		g.function("int f(int a,int b)", some+"unsigned u=2;char c=3;int m=4;char n=5;"),
		g.function("char o(char c)", some+"int a=1;int b;unsigned u=c;int m;char n;"),
		g.function("unsigned y()", some+"int a=getc();int b=3;unsigned u=-1;char c='c';int m=a;char n=b;"),
		g.function("int j(int a,char b,unsigned u,char c,int m,char n)", some),
		g.function("int main()", "int a=1;int b=2;unsigned u;char c=4;int m=-5;char n=600;"),
	}
	g.Shuffle(len(l), func(a, b int) { l[a], l[b] = l[b], l[a] })
	return "struct s{int one;char two;int row[2];};int g=3;char h='h';unsigned q[3];struct s z;int k=" + number(5+g.Intn(20)) + ";" + strings.Join(l, "")
}

// grown is a source at random: the same one for the same seed.
func grown(seed int) string {
	g := &grower{Rand: rand.New(rand.NewSource(int64(seed)))}
	return g.source()
}

// agree holds what a fuel must come to: where one of both is not Spent, the other one, with 1000 times as much and 1000, has the same result; what the one puts out is a beginning of what the other one does then.
func (b both) agree(t *testing.T, input string, fuel int) {
	t.Helper()
	enough := 1000*fuel + 1000
	hold := func(what string, less, more api.Result) {
		t.Helper()
		if !bytes.HasPrefix(more.Output, less.Output) || less.End != api.Spent && show(less) != show(more) {
			t.Fatalf("%s\nwith the input %q and a fuel of %d %s\n%s\nbut with %d\n%s", b.source, input, fuel, what, show(less), enough, show(more))
		}
	}
	hold("in core", b.inCore(input, fuel), b.inCode(input, enough))
	hold("in code", b.inCode(input, fuel), b.inCore(input, enough))
}

// TestRandom holds that many sources do in code what they do in core, with many amounts of fuel.
func TestRandom(t *testing.T) {
	ends := map[int]int{}
	for seed := range 300 {
		b := made(t, grown(seed))
		b.valid(t)
		for k, input := range []string{"a\x00b\xff7", ""} {
			for _, fuel := range []int{seed % 5, 5 + seed%7, 12 + seed%19, 31 + seed%37, 68 + seed%101} {
				b.agree(t, input, fuel+k)
			}
			ends[b.inCode(input, 100_000).End]++
		}
	}
	for end := api.Exit; end <= api.Spent; end++ {
		if ends[end] < 10 {
			t.Error("hardly a run ends with", end, ends)
		}
	}
}

// TestRandomToTheEnd holds that sources that come to an end in one of both ways come to the same one in the other way.
func TestRandomToTheEnd(t *testing.T) {
	for seed := 1000; seed < 1200; seed++ {
		b := made(t, grown(seed))
		all := b.inCode("+-*/", 200_000)
		if want := b.inCore("+-*/", most); all.End != api.Spent && show(all) != show(want) {
			t.Fatalf("%s\n%s\nin core\n%s", b.source, show(all), show(want))
		}
	}
}
