package lower_test

import (
	"sort"
	"strings"
	"testing"

	"doppel/api"
)

// least is the least fuel with which a run is not Spent.
func least(run func(string, int) api.Result, input string) int {
	return sort.Search(most+1, func(fuel int) bool { return run(input, fuel).End != api.Spent })
}

// inProportion holds that neither of both ways uses much more fuel than the other one, up to the end of a run.
func inProportion(t *testing.T, what, source, input string, want api.Result) {
	t.Helper()
	b := made(t, source)
	b.valid(t)
	core, code := least(b.inCore, input), least(b.inCode, input)
	for _, r := range []api.Result{b.inCore(input, core), b.inCode(input, code)} {
		if show(r) != show(want) {
			t.Fatalf("%s: %s; wanted %s", what, show(r), show(want))
		}
	}
	if core > 1000*code+1000 || code > 1000*core+1000 {
		t.Errorf("%s: a fuel of %d in core, and of %d in code", what, core, code)
	}
	for _, fuel := range []int{0, 1, 2, 3, 5, 8, 50, min(core, code, 999)} {
		b.agree(t, input, fuel)
	}
}

// TestStatementsWithoutInstructions has as many statements as there may be that need no instruction: core uses fuel for each.
func TestStatementsWithoutInstructions(t *testing.T) {
	nested := strings.Repeat("{", 90) + strings.Repeat("}", 90)
	marked := func(mark string) string {
		var text strings.Builder
		for k := range 1300 {
			text.WriteString(mark + number(k) + ":;")
		}
		return text.String()
	}
	for what, many := range map[string]string{
		"empty statements": strings.Repeat(";", 4080), "blocks": strings.Repeat("{}", 4070), "blocks in one another": strings.Repeat(nested, 44), "labels": marked("x"), "arrays": strings.Repeat("{int a[1];}", 1000),
		"cases": "switch(0){" + marked("case ") + "}", "statements of a case": "switch(-1){;case -1:" + strings.Repeat(";", 4070) + "}",
	} {
		inProportion(t, what, "int main(){"+many+"}", "", exit(0))
		inProportion(t, what+", in a loop", "int main(){do{"+many+"}while(getc());}", "abcdefghij\x00", exit(0))
		inProportion(t, what+", in a function", "int f(){"+many+"}int main(){f();f();return getc();}", "A", exit('A'))
		inProportion(t, what+", by gotos", "int main(){again:{"+many+"}if(~getc())goto again;}", "abcdefghij", exit(0))
		inProportion(t, what+", ahead of a trap", "int main(){"+many+"*(int*)0;}", "", trap(1, ""))
	}
}

// TestExpressionsWithoutInstructions has expressions of which most have no value yet where the first one is a trap: core has used fuel for all of them.
func TestExpressionsWithoutInstructions(t *testing.T) {
	for what, c := range map[string]struct {
		source string
		r      api.Result
	}{
		"loads":            {"struct s{struct s*n;};int main(){((struct s*)0)" + strings.Repeat("->n", 4050) + ";}", trap(1, "")},
		"loads of a local": {"struct s{struct s*n;};int main(){struct s*p;p" + strings.Repeat("->n", 4050) + ";}", trap(1, "")},
		"sums":             {"int main(){return 1/0" + strings.Repeat("+1", 2040) + ";}", trap(2, "")},
		"products":         {"int f(){return 1/0;}int main(){return f()" + strings.Repeat("*f()", 1800) + ";}", trap(2, "")},
		"conditions":       {"int main(){return 1/0" + strings.Repeat("&&1", 1300) + ";}", trap(2, "")},
		"negations":        {"int main(){return " + strings.Repeat("-~", 48) + "(1/0);}", trap(2, "")},
		"a long sum":       {"int main(){return 1" + strings.Repeat("+1", 2040) + ";}", exit(2041)},
		"a long condition": {"int main(){return 1" + strings.Repeat("&&1", 1300) + ";}", exit(1)},
		"a short one":      {"int main(){return 1" + strings.Repeat("||1", 1300) + ";}", exit(1)},
	} {
		inProportion(t, what, c.source, "", c.r)
	}
}

// TestSwitchesWithManyCases has as many cases as there may be: core uses no more fuel for them.
func TestSwitchesWithManyCases(t *testing.T) {
	for _, count := range []int{100, 1000, 1700} {
		var cases strings.Builder
		for k := range count {
			cases.WriteString("case " + number(k*7%count) + ":")
			if k%90 == 89 {
				cases.WriteString(";")
			}
		}
		for _, n := range []string{"-1", number(count / 2), number(count - 1), number(count), "2147483647", "-2147483647-1"} {
			inProportion(t, number(count)+" cases", "int main(){switch("+n+"){"+cases.String()+";}}", "", exit(0))
			inProportion(t, number(count)+" cases, in a loop", "int main(){do switch("+n+"){"+cases.String()+";}while(getc());}", "abcdefghij\x00", exit(0))
		}
	}
}

// TestEachFuel holds that with each amount of fuel what one of both ways puts out is a beginning of what the other one does.
func TestEachFuel(t *testing.T) {
	for _, c := range []struct{ source, input string }{
		{"int main(){putc(65);putc(66);return putc(67);}", ""}, {"int main(){int c;while((c=getc())>=0)putc(c+1);return c;}", "abcdefgh"}, {"int main(){int i;for(i=0;i<9;i++){if(i==2)continue;if(i==7)break;putc('0'+i);}putc('a'/(i-7));}", ""},
		{"int f(int n){if(n>3)return putc('0'+n)+f(n-1);return n;}int main(){return f(9);}", ""}, {"int f(int n){int a[600];putc(n);return f(n+1);}int main(){return f('a');}", ""}, {"int main(){putc('a');goto x;y:putc('b');return 3;x:putc('c');goto y;}", ""},
		{"int main(){int i;for(i=0;i<5;i++)switch(i){case 0:putc('a');case 1:putc('b');break;default:putc('c');case 3:putc('d');}}", ""}, {"int main(){putc('a')&&putc(0)||putc('b')&&putc('c');*(int*)putc(0)=putc('d');}", ""}, {"int main(){for(;;)putc(getc());}", "ab"},
	} {
		b := made(t, c.source)
		for fuel := range 250 {
			b.agree(t, c.input, fuel)
		}
	}
}
