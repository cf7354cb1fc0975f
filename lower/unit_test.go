package lower_test

import (
	"strings"
	"testing"

	"doppel/api"
	"doppel/core"
	"doppel/lower"
)

// zero tells whether a function is the zero one.
func zero(f api.Func) bool {
	return f.Name == "" && f.Params == 0 && f.Regs == 0 && f.Frame == 0 && len(f.Code) == 0
}

// empty tells whether a unit is the zero one.
func empty(u api.Unit) bool { return len(u.Funcs) == 0 && len(u.Globals) == 0 && u.Top == 0 }

// TestExample holds the chapter's example.
func TestExample(t *testing.T) {
	b := made(t, "int main(){return 7;}")
	want := []api.Instr{
		{Kind: api.Const, Dst: 0, N: 7, Else: -1}, {Kind: api.Return, Dst: -1, A: 0, Else: -1},
		{Kind: api.Const, Dst: 1, Else: -1}, {Kind: api.Return, Dst: -1, A: 1, Else: -1},
	}
	if !alike(b.unit, api.Unit{Funcs: []api.Func{{Name: "main", Regs: 2, Code: want}}, Top: 1}) {
		t.Error(b.unit)
	}
	b.valid(t)
}

// TestIndex has each index that a function may have, and others.
func TestIndex(t *testing.T) {
	p := made(t, "int g=5;int f(int a,char b){int c[3];return a;}void v(){}int main(){return f(1,2);}").program
	for k, name := range []string{"f", "v", "main"} {
		if f, errno := lower.Func(p, k); errno != api.OK || f.Name != name {
			t.Errorf("Func(%d): error %d, %v", k, errno, f)
		}
	}
	for _, k := range append(huge(), 3, 4, 64) {
		if f, errno := lower.Func(p, k); errno != api.ErrArg || !zero(f) {
			t.Errorf("Func(%d): error %d, %v", k, errno, f)
		}
	}
	for _, k := range append(huge(), 0) {
		if f, errno := lower.Func(core.Program{}, k); errno != api.ErrArg || !zero(f) {
			t.Errorf("Func(%d) of nothing: error %d, %v", k, errno, f)
		}
	}
}

// long holds that a function of a source is too long, and that there is no unit then.
func long(t *testing.T, what, source string, k int) {
	t.Helper()
	p, at, errno := core.Read(source)
	if errno != api.OK {
		t.Fatalf("%s: error %d at %d", what, errno, at)
	}
	if f, errno := lower.Func(p, k); errno != api.ErrLong || !zero(f) {
		t.Errorf("%s: Func: error %d, %d registers, %d instructions", what, errno, f.Regs, len(f.Code))
	}
	if u, errno := lower.Of(p); errno != api.ErrLong || !empty(u) {
		t.Errorf("%s: Of: error %d, %d functions", what, errno, len(u.Funcs))
	}
	if u, at, errno := lower.Read(source); errno != api.ErrLong || at != 0 || !empty(u) {
		t.Errorf("%s: Read: error %d at %d, %d functions", what, errno, at, len(u.Funcs))
	}
}

// sum is an expression of 2n - 1 values.
func sum(n int) string { return "1" + strings.Repeat("+1", n-1) }

// TestRegisters has functions with as many registers as there may be, and with one more.
func TestRegisters(t *testing.T) {
	for source, regs := range map[string]int{
		"int main(){return " + sum(2048) + ";}":                             4096, // and the 0 at the end
		"int main(){return -(" + sum(2047) + ");}":                          4095,
		"int main(){return -(" + sum(2047) + ")+1;}":                        4097,
		"int main(){return -(" + sum(2048) + ");}":                          4097,
		"int main(){return " + sum(2049) + ";}":                             4098,
		"int main(){int a;" + sum(2047) + ";}":                              4096, // a, and its value at first
		"int main(){int a;" + sum(2047) + ";7;}":                            4097,
		"int main(){int a;int b;" + sum(2046) + ";}":                        4096,
		"int main(){int a;int b;a=b;" + sum(2046) + ";}":                    4097,
		"int main(){" + strings.Repeat(sum(16)+";", 132) + sum(4) + ";}":    4100,
		"int main(){" + strings.Repeat(sum(16)+";", 132) + "1+1;}":          4096,
		"int f(int a,int b,int c){" + sum(2046) + ";}int main(){f(1,2,3);}": 4095,
		"int f(int a,int b,int c){" + sum(2046) + ";a;}int main(){}":        4096,
		"int f(int a,int b,int c){" + sum(2046) + ";a;b;}int main(){}":      4097,
	} {
		what := source[:25] + ", which needs " + number(regs)
		if regs > 4096 {
			long(t, what, source, 0)
			continue
		}
		b := made(t, source)
		b.valid(t)
		if f := b.unit.Funcs[0]; f.Regs != regs {
			t.Errorf("%s: %d registers", what, f.Regs)
		}
	}
}

// TestInstructions has functions with as many instructions as there may be, and with one more.
func TestInstructions(t *testing.T) {
	// Each && needs six instructions, but three registers alone; a goto needs one, and no register.
	source := func(gotos int) string {
		return "int main(){return 5;x:1" + strings.Repeat("&&1", 1300) + ";" + strings.Repeat("goto x;", gotos) + "}"
	}
	before := len(made(t, source(0)).unit.Funcs[0].Code)
	for gotos := 8190 - before; gotos <= 8194-before; gotos++ {
		what := number(before+gotos) + " instructions"
		if before+gotos > 8192 {
			long(t, what, source(gotos), 0)
			continue
		}
		b := made(t, source(gotos))
		b.valid(t)
		if f := b.unit.Funcs[0]; len(f.Code) != before+gotos || f.Regs >= 4096 {
			t.Errorf("%s: %d, and %d registers", what, len(f.Code), f.Regs)
		}
		if r := b.inCode("", 10); show(r) != show(exit(5)) {
			t.Error(what, show(r))
		}
	}
}

// TestErrorBehindOthers has programs in which not the first function is too long.
func TestErrorBehindOthers(t *testing.T) {
	// Each of these needs ten registers.
	many := "{" + strings.Repeat("g++;", 410) + "}"
	before := "int g;int a(){return 1;}int b(int n){return n;}"
	long(t, "the third one", before+"int c()"+many+"int main(){return a();}", 2)
	long(t, "the third one of four", before+"int c()"+many+"int main(){}int d()"+many, 2)
	long(t, "the last one", before+"int main(){}int d()"+many, 3)
	long(t, "main", before+"int main()"+many, 2)
	// The other ones have their code.
	p, _, _ := core.Read(before + "int c()" + many + "int main(){}")
	for k, name := range map[int]string{0: "a", 1: "b", 3: "main"} {
		if f, errno := lower.Func(p, k); errno != api.OK || f.Name != name {
			t.Errorf("Func(%d): error %d, %v", k, errno, f)
		}
	}
}

// TestFunctions has programs with one function, with several and with as many as there may be.
func TestFunctions(t *testing.T) {
	var many strings.Builder
	for k := range api.MaxFuncs - 1 {
		many.WriteString("int f" + number(k) + "(" + strings.Join(strings.Split("int a,int b,int c,int d,int e,int f", ",")[:k%7], ",") + "){int z[" + number(k+1) + "];return " + number(k) + ";}")
	}
	b := made(t, many.String()+"int main(){return f62(1,2,3,4,5,6)+f0();}")
	b.valid(t)
	if len(b.unit.Funcs) != 64 || b.unit.Funcs[63].Name != "main" || b.unit.Funcs[62].Params != 6 || b.unit.Funcs[62].Frame != 63 {
		t.Error("not 64 functions in their order")
	}
	comes(t, b.source, "", exit(62))
	for _, source := range []string{
		"int main(){}", "int main(){return 7;}int f(){}", "void f(){}int main(){}", "int f(int a){&a;}int main(){int a[7];}",
		"int a=1;int b[5];char c=300;unsigned d=-1;int*e;struct s{int x;int y[3];};struct s v;int main(){return d;}", "int a[1000];int b[1000];int c[1000];int d[1000];int e[95];int main(){return e[94];}",
	} {
		made(t, source).valid(t)
	}
	if g := made(t, "int a=1;int b[5];char c=300;int main(){}").unit; g.Top != 8 || len(g.Globals) != 3 || g.Globals[2] != (api.Global{Name: "c", At: 7, Size: 1, Init: 44}) {
		t.Error(g)
	}
}

// TestErrors has sources with each error, and where it is.
func TestErrors(t *testing.T) {
	var many strings.Builder
	for k := range api.MaxFuncs {
		many.WriteString("int f" + number(k) + "(){}")
	}
	for _, c := range []struct {
		source string
		at     int
		errno  api.Errno
	}{
		{"int main(){@}", 11, api.ErrChar}, {"int main(){}/*", 12, api.ErrChar}, {"int main(){''';}", 11, api.ErrChar},
		{"int main(){return 1y;}", 18, api.ErrNumber}, {"int main(){return 4294967296;}", 18, api.ErrNumber},
		{strings.Repeat(" ", 1<<15+1), 0, api.ErrLong}, {strings.Repeat(";", 1<<13+1), 1 << 13, api.ErrLong},
		{"", 0, api.ErrMain}, {"int main(){return 1;", 20, api.ErrSyntax}, {"int main(){if 1;}", 14, api.ErrSyntax}, {"main(){}", 0, api.ErrSyntax},
		{"int main(){return " + strings.Repeat("(", 101) + "1" + strings.Repeat(")", 101) + ";}", 117, api.ErrDeep},
		{"int main(){return x;}", 18, api.ErrName}, {"int main(){return f();}", 18, api.ErrName}, {"int x;int x;int main(){}", 6, api.ErrName},
		{"int main(){int*p;p=1;}", 18, api.ErrType}, {"void f(){}int main(){return f();}", 28, api.ErrType}, {"int f(int a){}int main(){f();}", 25, api.ErrType},
		{"int f(int a,int b,int c,int d,int e,int f,int g){}int main(){}", 0, api.ErrLong}, {"int a[1024];int b[1024];int c[1024];int d[1024];int main(){}", 36, api.ErrLong}, {many.String() + "int main(){}", many.Len(), api.ErrLong},
		{"int main(){break;}", 11, api.ErrFlow}, {"int main(){continue;}", 11, api.ErrFlow}, {"int main(){case 1:;}", 11, api.ErrFlow}, {"int main(){x:;x:;}", 14, api.ErrFlow}, {"int main(){;goto x;}", 12, api.ErrFlow},
		{"int f(){}", 0, api.ErrMain}, {"int main(int a){}", 0, api.ErrMain}, {"void main(){}", 0, api.ErrMain},
	} {
		u, at, errno := lower.Read(c.source)
		if errno != c.errno || at != c.at || !empty(u) {
			t.Errorf("%.60s: error %d at %d; wanted %d at %d", c.source, errno, at, c.errno, c.at)
		}
		// They are those of core.
		if _, place, other := core.Read(c.source); place != at || other != errno {
			t.Errorf("%.60s: error %d at %d; in core %d at %d", c.source, errno, at, other, place)
		}
	}
}
