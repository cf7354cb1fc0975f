package lower_test

import (
	"math/rand"
	"slices"
	"strings"
	"testing"

	"doppel/api"
	"doppel/lex"
)

// broad is a source with each kind of node, whose locals have other names than all else in it.
const broad = `struct pair { int one; char two; int row[2]; struct pair *next; }; int g = 7; char low = 'x'; struct pair z; unsigned many[3];
int sum(int p, int q) { return p + q; }
void put(int p) { if (p > 9) put(p / 10); putc('0' + p % 10); }
int leap(int p) { int a = 0; b: a++; if (a < p) goto b; goto c; while (a > 0) { p += 100; c: p++; a--; } d: return p; }
int pick(int p) { switch (p % 4) { case 0: return 5; case 1: p++; case 2: p += 2; break; default: p = -p; } return p; }
int own(int p) { int *a = &p; *a += 1; { int p = 3; a = &p; } return p; }
int main() {
	struct pair *p = &z; int a; int b; unsigned c = 4294967295; int d[2]; char q = 511; int e = a = 1;
	p->next = p; p->next->row[1] = 3; d[1] = sizeof(struct pair); low += q; many[a] = (unsigned)-1 >> 1;
	while ((b = getc()) >= 0) { if (b == 'q') break; if (b == 's') continue; d[0] += b; putc(b); low = low + b; }
	for (a = 0; a < 6; a++) { put(pick(a) + 10); many[a % 3] ^= own(a) || leap(a) && a; }
	do { c >>= 3; p->two += c; } while (c > 100);
	put(z.row[1] + leap(3) + sum(g, ~a & 255) + (c ? d[1] : 0)); for (;;) { int p = e--; if (!p) goto b; }
	b: return low + *(&z.one + 1) - q--;
}`

// rewritten is a source with other names of locals, and with other white space and comments between its tokens.
func rewritten(source string, random *rand.Rand, name func(string) string) string {
	gaps := []string{" ", "\n", "\t\r", "/**/", "/* int a; */", "// }\n", "/*\n*/ // \n"}
	tokens, _, _ := lex.Scan(source)
	var out strings.Builder
	for k, x := range tokens {
		out.WriteString(" ")
		if random.Intn(3) == 0 {
			out.WriteString(gaps[random.Intn(len(gaps))])
		}
		// What stands behind a point or an arrow is a field.
		field := k > 0 && (tokens[k-1].Text == "." || tokens[k-1].Text == "->")
		if x.Kind == api.Name && !field {
			out.WriteString(name(x.Text))
		} else {
			out.WriteString(x.Text)
		}
	}
	return out.String()
}

// TestChanges holds that names of locals, white space and comments change nothing.
func TestChanges(t *testing.T) {
	random := rand.New(rand.NewSource(3))
	each := func(source string, locals ...string) {
		b := made(t, source)
		b.valid(t)
		for k := range len(locals) + 4 {
			changed := rewritten(source, random, func(s string) string {
				at := slices.Index(locals, s)
				switch {
				case at < 0 || k == len(locals):
					return s
				case k == len(locals)+1:
					return s + "_1"
				case k == len(locals)+2:
					return strings.Repeat("Long", 9) + s
				case k == len(locals)+3:
					return "_" + number(at)
				}
				return locals[(at+k)%len(locals)]
			})
			if other := made(t, changed); !alike(b.unit, other.unit) {
				t.Fatalf("%s\nhas other code than\n%s", changed, source)
			}
		}
	}
	each(broad, "p", "q", "a", "b", "c", "d", "e")
	for seed := 5000; seed < 5025; seed++ {
		each(grown(seed), "a", "b", "u", "c", "m", "n", "w", "v", "r", "d", "x0", "x1", "x2")
	}
	// A local may have the name of a global, of a function, or of the one in which it is.
	for source, other := range map[string]string{
		"int g;int f(int a){int b=a;return b;}int main(){return f(g);}": "int g;int f(int f){int g=f;return g;}int main(){return f(g);}",
		"int main(){int a=1;{int b=2;a=b;}{int c=3;a=c;}return a;}":     "int main(){int a=1;{int b=2;a=b;}{int b=3;a=b;}return a;}",
		"int main(){x:goto y;y:goto x;}":                                "int main(){main:goto x;x:goto main;}",
		"int main(){int a;int b;return a-b;}":                           "int main ( ) { // nothing\nint b ; int a ; return /* a */ b - a ; }",
		"int main(){return 1+2;}":                                       "int main(){return((1)+((2)));}",
	} {
		if !alike(made(t, source).unit, made(t, other).unit) {
			t.Errorf("%s has other code than %s", source, other)
		}
	}
	// And what is changed otherwise is not the same.
	for _, other := range []string{"int main(){int a;int b;return b-a;}", "int main(){int b;int a;return a-b;}", "int main(){int a;int b;return a+b;}", "int g;int main(){int a;int b;return a-b;}", "int main(){int a;int b;return b-b;}"} {
		if alike(made(t, "int main(){int a;int b;return a-b;}").unit, made(t, other).unit) {
			t.Errorf("%s has the same code", other)
		}
	}
}

// TestBroad holds what the source of these tests does.
func TestBroad(t *testing.T) {
	for input, r := range map[string]api.Result{"": result(api.Exit, -113, "15141471518470"), "abscq": result(api.Exit, -75, "abc15141471518470"), "aqq": result(api.Exit, -16, "a15141471518470")} {
		comes(t, broad, input, r)
	}
}
