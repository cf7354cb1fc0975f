package eval_test

import (
	"math/rand"
	"strings"
	"testing"

	"doppel/api"
	"doppel/eval"
	"doppel/lex"
)

// written is a source with each kind of node, which reads its input, and puts out what it computes.
const written = `struct s { int a; struct s *next; char c[2]; }; int g = 7; int many[3]; struct s both[2]; char low = 'x';
int sum(int a, int b) { return a + b; }
void put(int n) { if (n > 9) put(n / 10); putc('0' + n % 10); }
int jump(int n) { int i = 0; again: i++; if (i < n) goto again; goto in; while (i > 0) { n += 100; in: n++; i--; } return n; }
int pick(int n) { switch (n % 4) { case 0: return 5; case 1: n++; case 2: n += 2; break; default: n = -n; } return n; }
int own(int n) { int *p = &n; *p += 1; return n; }
int main() {
	struct s *p = both; int i; int c; unsigned u = 4294967295; int sums[2];
	p->next = p + 1; p->next->a = 3; both[1].next = 0; sums[1] = 0;
	while ((c = getc()) >= 0) { if (c == 'q') break; if (c == 's') continue; sums[1] += c; putc(c); low = low + c; }
	for (i = 0; i < 6; i++) { put(pick(i) + 10); many[i % 3] = own(i) || jump(i) && i; }
	do { u >>= 3; p->c[1] += u; } while (u > 100);
	put(both[0].next->a + jump(3) + sum(g, ~i & 255) + (u ? many[1] : 0)); put(sums[1]); put(low); put(both[0].c[1]);
	if (c == 'q') return sums[1] / (g - 7); return !i ? 1 : (int)p + sizeof(struct s);
}`

// TestMoreFuel holds that more fuel leaves a run as it is, or lets one that was Spent go on.
func TestMoreFuel(t *testing.T) {
	grows := func(source, input string, most int) api.Result {
		p := read(t, source)
		before := eval.Run(p, []byte(input), -1)
		for fuel := range most {
			now := eval.Run(p, []byte(input), fuel)
			if before.End != api.Spent && !eval.Same(before, now) {
				t.Fatalf("%s: %s, but with a fuel of %d %s", source, show(before), fuel, show(now))
			}
			if !strings.HasPrefix(string(now.Output), string(before.Output)) || len(now.Output) > len(before.Output)+1 || !eval.Begins(before, now) {
				t.Fatalf("%s: %s, and with a fuel of %d %s", source, show(before), fuel, show(now))
			}
			before = now
		}
		want(t, source, eval.Run(p, []byte(input), most-1), before)
		return before
	}
	for input, end := range map[string]int{"": api.Exit, "abscd": api.Exit, "aq": api.Trap} {
		if r := grows(written, input, 3000); r.End != end || len(r.Output) < 20 {
			t.Error(show(r))
		}
	}
	ends := map[int]int{}
	for seed := range 150 {
		ends[grows(made(int64(10000+seed)), "a\x01b", 250).End]++
	}
	for end := api.Exit; end <= api.Spent; end++ {
		if ends[end] == 0 {
			t.Error("no run ends with", end, ends)
		}
	}
	if r := grows("int f(){int a[1000];putc(65);return f();}int main(){return f();}", "", 60); !equal(r, result(api.Full, 0, "AAAA")) {
		t.Error(show(r))
	}
}

// renamed is a source with other names, and with other white space and comments between its tokens.
func renamed(source string, random *rand.Rand, name func(string) string) string {
	gaps := []string{" ", "\n", "\t", "\r", "  \n\t", "/* a; */", "/**/", "// a; }\n", " /* * / \n */ "}
	tokens, _, _ := lex.Scan(source)
	var out strings.Builder
	for _, x := range tokens {
		// A slash ahead of a comment's begins another comment.
		out.WriteString(gaps[random.Intn(5)] + gaps[random.Intn(len(gaps))])
		if x.Kind == api.Name && x.Text != "main" {
			out.WriteString(name(x.Text))
		} else {
			out.WriteString(x.Text)
		}
	}
	return out.String()
}

// turned gives each name of a source that of another one.
func turned(source string, by int) func(string) string {
	tokens, _, _ := lex.Scan(source)
	var l []string
	place := map[string]int{}
	for _, x := range tokens {
		if _, seen := place[x.Text]; x.Kind == api.Name && x.Text != "main" && !seen {
			place[x.Text] = len(l)
			l = append(l, x.Text)
		}
	}
	return func(s string) string { return l[(place[s]+by)%len(l)] }
}

// TestNamesAndSpace holds that white space, comments and names change nothing: a run uses the same fuel, too.
func TestNamesAndSpace(t *testing.T) {
	random := rand.New(rand.NewSource(5))
	sources := []string{written}
	for seed := range 60 {
		sources = append(sources, made(int64(20000+seed)))
	}
	for _, source := range sources {
		for k, name := range []func(string) string{
			func(s string) string { return s },
			func(s string) string { return s + "_1" },
			func(s string) string { return strings.Repeat("Z", 40) + s },
			turned(source, 1), turned(source, 2), turned(source, 3),
		} {
			other := renamed(source, random, name)
			p, q := read(t, source), read(t, other)
			for _, fuel := range []int{0, 1, 2, 3, 5, 8, 13, 21, 34, 55, 89, 144, 233, 377, 610, 987, 1597, 2584, 5000} {
				a, b := eval.Run(p, []byte("abs"), fuel), eval.Run(q, []byte("abs"), fuel)
				if !equal(a, b) {
					t.Fatalf("%d: %s: with a fuel of %d: %s, and %s", k, other, fuel, show(a), show(b))
				}
			}
		}
	}
	comes(t, "int main ( ) { // nothing\n return /* 1 */ 2 ; }", "", exit(2))
}

// TestWritten holds what the source of these tests does.
func TestWritten(t *testing.T) {
	comes(t, written, "", result(api.Exit, 9, "15141471518"+"466"+"0"+"120"+"23"))
	comes(t, written, "abscd", result(api.Exit, 9, "abcd"+"15141471518"+"466"+"394"+"2"+"23"))
	comes(t, written, "aqb", result(api.Trap, 2, "a"+"15141471518"+"466"+"97"+"217"+"23"))
}
