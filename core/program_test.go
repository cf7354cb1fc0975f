package core_test

import (
	"reflect"
	"strconv"
	"strings"
	"testing"

	"doppel/api"
	"doppel/core"
	"doppel/tree"
)

func TestGlobals(t *testing.T) {
	end := "main 0 0 0 (block (block))"
	whole(t, "int main(){}", "1", end)
	whole(t, "int a;unsigned b;char c;int*d;void**e;int f[3];struct s{int x;char y[4];};struct s g;struct s h[2];struct s*i;struct n*j;int k;int main(){}",
		"a 1 1 0", "b 2 1 0", "c 3 1 0", "d 4 1 0", "e 5 1 0", "f 6 3 0", "g 9 5 0", "h 14 10 0", "i 24 1 0", "j 25 1 0", "k 26 1 0", "27", end)
	whole(t, "int a=7;int b=-7;int c=2147483647;int d=2147483648;int e=4294967295;int f=-2147483648;int g=-4294967295;int h='A';int i=0;int j=-0;int main(){}",
		"a 1 1 7", "b 2 1 -7", "c 3 1 2147483647", "d 4 1 -2147483648", "e 5 1 -1", "f 6 1 -2147483648", "g 7 1 1", "h 8 1 65", "i 9 1 0", "j 10 1 0", "11", end)
	whole(t, "unsigned a=4294967295;unsigned b=-1;char c=255;char d=256;char e=-1;char f=4294967042;int*p=0;void*q=0;struct s*r=0;int main(){}",
		"a 1 1 -1", "b 2 1 -1", "c 3 1 255", "d 4 1 0", "e 5 1 255", "f 6 1 2", "p 7 1 0", "q 8 1 0", "r 9 1 0", "10", end)
	// Functions see globals that stand behind them.
	whole(t, "int main(){return a;}int b;int a=3;", "b 1 1 0", "a 2 1 3", "3", "main 0 0 0 (block (block (give (load 2))))")
	// The name of a function is not that of a variable.
	whole(t, "int f;int f(){return f;}int main(){int f=2;return f+f();}", "f 1 1 0", "2", "f 0 0 0 (block (block (give (load 1))))", "main 0 1 0 (block (block (do (set 0 2)) (give (add r0 (call f)))))")
	for _, source := range []string{"int a;@int a;", "int a;@char*a;", "int a[2];@int a=1;", "int a;int b;@int a;int b;", "int a;@void a;"} {
		refused(t, source+"int main(){}", api.ErrName)
	}
	for _, source := range []string{"@void a;", "@void a[2];", "@void a=1;", "@struct s a;", "@struct s a[2];", "@int*p=1;", "@void*p=-1;", "@int a[2]=1;", "struct s{int x;};@struct s a=1;", "struct s{int x;};@struct s a[3]=1;", "@struct s a;struct s{int x;};"} {
		refused(t, source+"int main(){}", api.ErrType)
	}
	for _, source := range []string{"@int a[0];", "@char a[1025];", "@int*a[4294967295];", "struct s{int x[3];int y[2];};@struct s a[820];"} {
		refused(t, source+"int main(){}", api.ErrLong)
	}
}

func TestStructures(t *testing.T) {
	end := "main 0 0 0 (block (block))"
	whole(t, "struct s{int a;};struct t{struct s a;struct s*b;struct t*c;struct u*d;struct s e[2];char f;};struct t v;int main(){}", "v 1 7 0", "8", end)
	whole(t, "struct t{struct u*p;};struct u{int a;int b;};struct t v;int main(){return v.p->b;}", "v 1 1 0", "2", "main 0 0 0 (block (block (give (load (add (load 1) 1)))))")
	// A structure may stand behind the functions that use it, but not behind a global of it.
	whole(t, "int main(){struct s a;return sizeof(struct s)+a.y;}struct s{int x;int y;};", "1", "main 0 0 2 (block (block (empty) (give (add 2 (load (add f0 1))))))")
	// Names of fields are names of nothing else; a struct's name, too.
	whole(t, "struct s{int s;int x;};int s;int x;int main(){struct s x;return x.x+s;}", "s 1 1 0", "x 2 1 0", "3", "main 0 0 2 (block (block (empty) (give (add (load (add f0 1)) (load 1)))))")
	for _, source := range []string{"struct s{int a;};@struct s{int a;};", "@struct s{int a;int a;};", "@struct s{int a;char b;int*a;};", "struct s{int a;};struct t{int a;};@struct s{char b;};"} {
		refused(t, source+"int main(){}", api.ErrName)
	}
	for _, source := range []string{"@struct s{void a;};", "@struct s{int b;struct s a;};", "@struct s{struct t a;};struct t{int x;};", "struct s{int b;@void a[2];};", "struct s{@struct s a[2];};", "struct s{struct s*a;@struct t b[2];};struct t{int x;};"} {
		refused(t, source+"int main(){}", api.ErrType)
	}
	for _, source := range []string{"struct s{int b;@int a[0];};", "struct s{@int a[1025];};", "@struct s{int a[1024];int b[1024];int c[1024];int d[1024];int e;};"} {
		refused(t, source+"int main(){}", api.ErrLong)
	}
	whole(t, "struct s{int a[1024];int b[1024];int c[1024];int d[1024];};int main(){return sizeof(struct s);}", "1", "main 0 0 0 (block (block (give 4096)))")
}

func TestFunctions(t *testing.T) {
	rest := "int main(){}"
	for _, source := range []string{"int f(){}@int f(){}", "int f(){}@void f(int a){}", "int f(){}int g(){}@char g(){}int f(){}", "int f(){}@struct s f(){}"} {
		refused(t, source+rest, api.ErrName)
	}
	refused(t, rest+"@int main(){}", api.ErrName)
	for _, source := range []string{"@struct s f(){}", "struct s{int x;};@struct s f(){}", "struct s{int x;};@struct s f(int a,int a){}"} {
		refused(t, source+rest, api.ErrType)
	}
	for _, source := range []string{"", "int f(){}", "int a;", "int main;", "struct main{int a;};", "void main(){}", "char main(){}", "unsigned main(){}", "int*main(){}", "int main(int a){}", "int main(int a,int b){}", "int Main(){}", "int main_(){}", "int f(){main:;}"} {
		refused(t, "@"+source, api.ErrMain)
	}
}

// TestOrder holds which error is returned where several apply.
func TestOrder(t *testing.T) {
	// Structures, globals and signatures, then bodies, and ErrMain at last.
	refused(t, "int f(){return x;}@void v;", api.ErrType)
	refused(t, "int f(){return x;}@int f(){}", api.ErrName)
	refused(t, "int f(){return x;}int g(@void a){}", api.ErrType)
	refused(t, "int f(){return x;}@struct s{void a;};int main(){}", api.ErrType)
	refused(t, "int f(){break;}int a;@int a;", api.ErrName)
	refused(t, "int f(){return @x;}", api.ErrName)
	refused(t, "int f(){return @x;}int main(int a){}", api.ErrName)
	refused(t, "void main(){@return 1;}", api.ErrType)
	refused(t, "int main(int a){@goto x;}", api.ErrFlow)
	refused(t, "@void v;int f(){}int f(){}", api.ErrType)
	refused(t, "int a;@int a;void v;", api.ErrName)
	refused(t, "int f(@void a){}void v;", api.ErrType)
	refused(t, "@struct s{void a;};int f(int a,int a){}", api.ErrType)
	// Bodies in their order, whichever calls whichever.
	refused(t, "int f(){g(@x);}int g(int a){return y;}int main(){}", api.ErrName)
	refused(t, "int f(){return @x;}int g(){break;}int main(){}", api.ErrName)
	refused(t, "int f(){@break;}int g(){return x;}int main(){}", api.ErrFlow)
	refused(t, "int f(){@break;return x;}int main(){}", api.ErrFlow)
	refused(t, "int f(){return @x;break;}int main(){}", api.ErrName)
	refused(t, "int f(){if(@x)break;else y;}int main(){}", api.ErrName)
	refused(t, "int f(){for(@x;y;z)u;}int main(){}", api.ErrName)
	refused(t, "int f(){for(;@y;z)u;}int main(){}", api.ErrName)
	refused(t, "int f(){for(;;@z)u;}int main(){}", api.ErrName)
	refused(t, "int f(){do @x;while(y);}int main(){}", api.ErrName)
	refused(t, "int f(){while(@x)y;}int main(){}", api.ErrName)
	refused(t, "int f(){switch(@x){y;}}int main(){}", api.ErrName)
	refused(t, "int f(){switch(1){@y;case 1:case 1:;}}int main(){}", api.ErrName)
	refused(t, "int f(){switch(1){case 1:@case 1:y;}}int main(){}", api.ErrFlow)
	refused(t, "int f(){l:@l:x;}int main(){}", api.ErrFlow)
	// A goto without its label is told of behind all other errors of its function's body, but ahead of the next body's.
	refused(t, "int f(){goto x;return @y;}int main(){}", api.ErrName)
	refused(t, "int f(){goto x;@break;}int main(){}", api.ErrFlow)
	refused(t, "int f(){goto x;y:;@y:;}int main(){}", api.ErrFlow)
	refused(t, "int f(){goto y;@goto x;y:;goto z;}int main(){}", api.ErrFlow)
	refused(t, "int f(){@goto x;}int g(){return y;}int main(){}", api.ErrFlow)
	refused(t, "int f(){@goto x;}", api.ErrFlow)
	refused(t, "int f(){goto x;}int g(@struct s b){}", api.ErrType)
}

// TestBelow holds that the errors of the layers below are those of Read, with their positions.
func TestBelow(t *testing.T) {
	refused(t, "int main(){return @$;}", api.ErrChar)
	refused(t, "void v; @/*", api.ErrChar)
	refused(t, "int main(){return @1x;}", api.ErrNumber)
	refused(t, "int main(){return 1 @1;}", api.ErrSyntax)
	refused(t, "int main(){return x @x;}", api.ErrSyntax)
	refused(t, "@x", api.ErrSyntax)
	refused(t, "void v@", api.ErrSyntax)
	refused(t, "@"+strings.Repeat(" ", 1<<15+1), api.ErrLong)
	refused(t, "int main(){"+strings.Repeat("x ", 8187)+"@x", api.ErrLong)
	refused(t, "int main(){return "+strings.Repeat("(", 98)+"x"+strings.Repeat(")", 98)+"+"+strings.Repeat("(", 99)+"@x", api.ErrDeep)
	refused(t, "int main(){"+strings.Repeat("x;", 2730)+"}@", api.ErrLong)
	refused(t, "int main(){return "+strings.Repeat("(", 98)+"@x"+strings.Repeat(")", 98)+";}", api.ErrName)
}

// TestOf holds that Read is Of of the tree.
func TestOf(t *testing.T) {
	for _, source := range []string{broad, "", "int main(){}", "int main(){return x;}", "int f(){}", "int main(){goto x;}"} {
		of, _, errno := tree.Read(source)
		if errno != api.OK {
			t.Fatal(source, errno)
		}
		a, at, errno := core.Of(of)
		b, bAt, bErrno := core.Read(source)
		if at != bAt || errno != bErrno || !reflect.DeepEqual(a, b) {
			t.Errorf("%q: Of and Read differ", source)
		}
	}
}

func TestMostFunctions(t *testing.T) {
	functions := func(n int) string {
		var l strings.Builder
		for i := range n - 1 {
			l.WriteString("int f" + strconv.Itoa(i) + "(){}")
		}
		return l.String()
	}
	if p := read(t, functions(64)+"int main(){}"); len(p.Funcs) != 64 || core.Find(p, "main") != 63 {
		t.Error("64 functions:", len(p.Funcs))
	}
	refused(t, functions(65)+"@int main(){}", api.ErrLong)
	refused(t, functions(65)+"@int g(){}int main(){return x;}", api.ErrLong)
	refused(t, functions(65)+"@int f0(){}", api.ErrName)
}

func TestMostParameters(t *testing.T) {
	if p := read(t, "int f(int a,int b,int c,int d,int e,int g){return f(1,2,3,4,5,6);}int main(){}"); p.Funcs[0].Params != 6 {
		t.Error("6 parameters:", p.Funcs[0])
	}
	refused(t, "@int f(int a,int b,int c,int d,int e,int g,int h){}int main(){}", api.ErrLong)
	refused(t, "int main(){return x;}@void f(int a,int b,int c,int d,int e,int g,int h,int i){}", api.ErrLong)
}

// TestMostRegisters holds that a function has as many registers as may be. An operand of ++ in memory takes two: one for its address, and one for its old value.
func TestMostRegisters(t *testing.T) {
	sum := func(n int) string { return "g++" + strings.Repeat("+g++", n-1) }
	p := read(t, "int g;int main(){"+sum(2048)+";}")
	if regs := p.Funcs[0].Regs; regs != 4096 {
		t.Error("registers:", regs)
	}
	refused(t, "int g;int main(){"+sum(2048)+";g@++;}", api.ErrLong)
	refused(t, "int g;int main(){"+sum(2048)+"+g@++;}", api.ErrLong)
	refused(t, "int g;int main(){"+sum(2048)+";g@+=1;}", api.ErrLong)
	refused(t, "int g;int main(){"+sum(2048)+";@int a;}", api.ErrLong)
	refused(t, "int g;int main(){int a;int b;"+sum(2047)+";@int c;}", api.ErrLong)
	refused(t, "int g;int main(){int a;"+sum(2047)+";g@++;}", api.ErrLong)
	read(t, "int g;int main(){"+sum(2047)+";int a;int b;}")
	read(t, "int g;int main(){int a[9];struct s*p;"+sum(2047)+";int b;}")
	read(t, "int g;int main(){"+sum(2048)+";int a[9];int b;&b;}")
	read(t, "int g;int f(){"+sum(1300)+";}int main(){"+sum(1300)+";}")
	refused(t, "int g;int f(int a){"+sum(2047)+";g@++;}int main(){}", api.ErrLong)
}

func TestMostWords(t *testing.T) {
	four := "int a[1024];int b[1024];int c[1024];"
	// The words from 1 to 4095 are those of globals.
	if p := read(t, four+"int d[1023];int main(){}"); p.Top != 4096 {
		t.Error("Top:", p.Top)
	}
	if p := read(t, four+"int d[1022];int e=5;int main(){}"); p.Top != 4096 || p.Globals[4] != (api.Global{Name: "e", At: 4095, Size: 1, Init: 5}) {
		t.Error("the last word:", p.Top, p.Globals[4])
	}
	refused(t, four+"@int d[1024];int main(){}", api.ErrLong)
	refused(t, four+"int d[1023];@char e;int main(){}", api.ErrLong)
	refused(t, four+"int d[1000];@int e[24];int f[24];int main(){return x;}", api.ErrLong)
	refused(t, four+"int d[1023];int main(){}@int a;", api.ErrName)
	// A frame may have as many as there are.
	if p := read(t, "int main(){"+four+"int d[1024];}"); p.Funcs[0].Frame != 4096 {
		t.Error("Frame:", p.Funcs[0])
	}
	if p := read(t, "int main(){"+four+"int d[1023];int e;&e;}"); p.Funcs[0].Frame != 4096 || p.Funcs[0].Regs != 0 {
		t.Error("Frame:", p.Funcs[0])
	}
	refused(t, "int main(){"+four+"int d[1024];@int e;&e;}", api.ErrLong)
	refused(t, "int main(){"+four+"int d[1000];@int e[25];}", api.ErrLong)
	refused(t, "int main(){{"+four+"}{int d[1024];}{@int e[1];}}", api.ErrLong)
	refused(t, "int f(int a){"+four+"&a;@int d[1024];}int main(){}", api.ErrLong)
	read(t, "int f(){"+four+"int d[1024];}int main(){"+four+"int d[1024];int e;}")
	read(t, four+"int d[1023];int main(){"+four+"int d[1024];}")
}

// TestManyTypes holds that there are as many types as a tree may have, and pointers to all of them.
func TestManyTypes(t *testing.T) {
	var locals, pointers strings.Builder
	for i := range 252 {
		locals.WriteString("char a" + strconv.Itoa(i) + "[" + strconv.Itoa(1+i%8) + "];")
	}
	for i := range 243 {
		pointers.WriteString("sizeof(int*[" + strconv.Itoa(i+1) + "]);")
	}
	for i := range 252 {
		pointers.WriteString("&a" + strconv.Itoa(i) + ";")
	}
	source := "int main(){" + locals.String() + pointers.String()
	if of, _, errno := tree.Read(source + "}"); errno != api.OK || len(of.Types) != 256 {
		t.Fatal(errno, len(of.Types))
	}
	read(t, source+"}")
}
