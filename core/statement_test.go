package core_test

import (
	"testing"

	"doppel/api"
)

// statements holds what becomes of the statements of main.
func statements(t *testing.T, l ...string) {
	t.Helper()
	for i := 0; i+1 < len(l); i += 2 {
		if got := inside(t, "", l[i]); got != l[i+1] {
			t.Errorf("%s: %s; wanted %s", l[i], got, l[i+1])
		}
	}
}

// flawed holds that the statements of main have an error, where their marks stand.
func flawed(t *testing.T, errno api.Errno, l ...string) {
	t.Helper()
	for _, text := range l {
		refused(t, "int main(){"+text+"}", errno)
	}
}

func TestExample(t *testing.T) {
	whole(t, "int main(){int a;a=2;return a;}", "1", "main 0 1 0 (block (block (do (set 0 0)) (do (set 0 2)) (give r0)))")
}

func TestStatements(t *testing.T) {
	statements(t,
		"", "", ";", "(empty)", "1;", "(do 1)", "{}", "(block)", "{;{1;}}", "(block (empty) (block (do 1)))", ";;", "(empty) (empty)",
		"if(1);", "(if 1 (empty) -)", "if(1)2;else 3;", "(if 1 (do 2) (do 3))", "if(1)if(2);else;", "(if 1 (if 2 (empty) (empty)) -)",
		"while(1)2;", "(while 1 (do 2))", "do 1;while(2);", "(dowhile 2 (do 1))",
		"for(;;);", "(for - - - (empty))", "for(1;2;3)4;", "(for 1 2 3 (do 4))", "for(1;;);", "(for 1 - - (empty))", "for(;1;);", "(for - 1 - (empty))", "for(;;1);", "(for - - 1 (empty))",
		"while(1)break;", "(while 1 (break))", "while(1)continue;", "(while 1 (continue))", "do break;while(1);", "(dowhile 1 (break))", "for(;;){if(1)continue;break;}", "(for - - - (block (if 1 (continue) -) (break)))",
		"return;", "(give -)", "return 7;", "(give 7)", "int i;return i=1;", "(do (set 0 0)) (give (set 0 1))",
		"goto x;x:;", "(goto x) (label x (empty))", "x:goto x;", "(label x (goto x))", "x:y:1;goto y;", "(label x (label y (do 1))) (goto y)", "while(1){x:;}goto x;", "(while 1 (block (label x (empty)))) (goto x)",
		"switch(1){}", "(switch 1 (block))", "switch(1){case 1:break;default:;case -1:2;}", "(switch 1 (block (case 1 (break)) (default (empty)) (case -1 (do 2))))", "switch(1){case 1:case 2:default:case 0:;}", "(switch 1 (block (case 1 (case 2 (default (case 0 (empty)))))))", "switch('a'){case 'a':;}", "(switch 97 (block (case 97 (empty))))",
		"switch(1){case 4294967295:;case 2147483648:;case -5:;case 0x7fffffff:;}", "(switch 1 (block (case -1 (empty)) (case -2147483648 (empty)) (case -5 (empty)) (case 2147483647 (empty))))", "switch(1){case -4294967295:;}", "(switch 1 (block (case 1 (empty))))",
		"while(1)switch(2){case 1:continue;case 2:break;}", "(while 1 (switch 2 (block (case 1 (continue)) (case 2 (break)))))", "switch(1){while(1){case 1:break;}if(1){default:;}}", "(switch 1 (block (while 1 (block (case 1 (break)))) (if 1 (block (default (empty))) -)))",
		"switch(1){case 1:switch(2){case 1:;default:;}default:;}", "(switch 1 (block (case 1 (switch 2 (block (case 1 (empty)) (default (empty))))) (default (empty))))", "switch(1){case 1:;}switch(1){case 1:;}", "(switch 1 (block (case 1 (empty)))) (switch 1 (block (case 1 (empty))))")
	// Conditions take any scalar.
	statements(t, "int*p;unsigned u;char c;int a[2];if(p);while(u);do;while(c);for(;a;);", "(do (set 0 0)) (do (set 1 0)) (do (set 2 0)) (empty) (if r0 (empty) -) (while r1 (empty)) (dowhile r2 (empty)) (for - f0 - (empty))")
	statements(t, "unsigned u;char c;switch(u){}switch(c){}", "(do (set 0 0)) (do (set 1 0)) (switch r0 (block)) (switch r1 (block))")
	for _, statement := range []string{"if(@s);", "while(@s);", "do;while(@s);", "for(;@s;);", "@switch(p){}", "@switch(a){}", "switch(@s){}", "@s;", "for(@s;;);", "for(;;@s);", "@*v;", "return @s;", "@return p;", "@return a;", "@return v;"} {
		refused(t, "struct t{int x;};int main(){struct t s;int*p;int a[2];void*v;"+statement+"}", api.ErrType)
	}
}

func TestReturns(t *testing.T) {
	whole(t, "char c(int i){return i;}unsigned u(char c){return c;}int*p(void*v){if(v)return v;return 0;}void*v(int*p){return p;}struct s*s(struct s*s){return s;}void n(){}int main(){return u(1)/2;}", "1",
		"c 1 1 0 (block (block (give (low r0))))", "u 1 1 0 (block (block (give r0)))", "p 1 1 0 (block (block (if r0 (give r0) -) (give 0)))", "v 1 1 0 (block (block (give r0)))", "s 1 1 0 (block (block (give r0)))", "n 0 0 0 (block (block))", "main 0 0 0 (block (block (give (divu (call u (low 1)) 2))))")
	// A function may end without a return, or with one that gives nothing.
	whole(t, "int*p(){}char c(){return;}int main(){}", "1", "p 0 0 0 (block (block))", "c 0 0 0 (block (block (give -)))", "main 0 0 0 (block (block))")
	for _, source := range []string{"int*f(){@return 1;}", "int*f(char*p){@return p;}", "int f(int*p){@return p;}", "unsigned f(void*p){@return p;}", "struct s*f(struct t*p){@return p;}", "int*f(){int a[2];@return &a;}", "int*f(){@return -0;}"} {
		refused(t, source+"int main(){}", api.ErrType)
	}
}

func TestFlow(t *testing.T) {
	flawed(t, api.ErrFlow,
		"@break;", "@continue;", "if(1)@break;", "{@continue;}", "while(1);@break;", "do;while(1);@continue;", "for(;;);@break;", "switch(1){}@break;", "switch(1){@continue;}", "switch(1){case 1:@continue;}", "while(1)switch(1){}@break;", "while(1){}{@continue;}", "x:@break;",
		"@case 1:;", "@default:;", "while(1){@case 1:;}", "switch(1){}@case 1:;", "switch(1){}@default:;", "{@default:;}",
		"switch(1){case 1:;@case 1:;}", "switch(1){case 1:@case 1:;}", "switch(1){default:;@default:;}", "switch(1){default:@default:;}", "switch(1){case -1:;@case 4294967295:;}", "switch(1){case 0:;@case -0:;}", "switch(1){case 65:;{@case 'A':;}}", "switch(1){case 1:;while(1)@case 1:;}", "switch(1){case 2:switch(1){case 2:;}@case 2:;}", "switch(1){default:switch(1){default:;}@default:;}", "switch(1){case 1:;case 2:;case 3:;@case 2:;}",
		"x:;@x:;", "x:@x:;", "x:{@x:;}", "{x:;}{@x:;}", "goto x;x:;y:;@x:;",
		"@goto x;", "@goto x;goto y;", "x:;@goto y;y1:goto x;", "goto x;x:@goto z;", "while(1){@goto x;}", "int x;@goto x;")
	// A switch within a switch has cases of its own, and labels belong to a function.
	whole(t, "int f(){x:goto x;}int main(){x:goto x;}", "1", "f 0 0 0 (block (block (label x (goto x))))", "main 0 0 0 (block (block (label x (goto x))))")
	refused(t, "int f(){x:;}int main(){@goto x;}", api.ErrFlow)
	refused(t, "int f(){@goto x;}int main(){x:;}", api.ErrFlow)
	refused(t, "int f(){while(1);}int main(){@break;}", api.ErrFlow)
	// A label is no name of a variable.
	statements(t, "int x;x:x=1;goto x;", "(do (set 0 0)) (label x (do (set 0 1))) (goto x)")
}

func TestLocals(t *testing.T) {
	statements(t,
		"int i;", "(do (set 0 0))", "unsigned u;char c;int*p;", "(do (set 0 0)) (do (set 1 0)) (do (set 2 0))", "int i=7;", "(do (set 0 7))", "char c=300;", "(do (set 0 (low 300)))", "unsigned u=-1;", "(do (set 0 (neg 1)))", "int*p=0;", "(do (set 0 0))", "int i=1;int j=i;", "(do (set 0 1)) (do (set 1 r0))",
		"int i;&i;", "(do (store f0 0)) (do f0)", "int i=7;&i;", "(do (store f0 7)) (do f0)", "char c=7;&c;", "(do (store f0 (low 7))) (do f0)", "int*p;&p;p=0;", "(do (store f0 0)) (do f0) (do (store f0 0))",
		"int a[3];", "(empty)", "int a[3];int b[2];a[b[1]];", "(empty) (empty) (do (load (add f0 (load (add f3 1)))))", "int a[2];int*p=a;", "(empty) (do (set 0 f0))",
		// What is in the frame stands there in the order of the declarations, in whichever blocks.
		"int i;char a[3];int j;{int b[2];int k;&k;}int c[1];&i;j;a;c;", "(do (store f0 0)) (empty) (do (set 0 0)) (block (empty) (do (store f6 0)) (do f6)) (empty) (do f0) (do r0) (do f1) (do f7)",
		"{int a[2];a;}{int a[2];a;}", "(block (empty) (do f0)) (block (empty) (do f2))", "{int i;i;}{int i;i;}", "(block (do (set 0 0)) (do r0)) (block (do (set 1 0)) (do r1))",
		// A name denotes what the innermost block declared before.
		"int i=1;{int i=2;i;}i;", "(do (set 0 1)) (block (do (set 1 2)) (do r1)) (do r0)", "int i=1;{i;int i=2;i;{i;int i;i;}i;}i;", "(do (set 0 1)) (block (do r0) (do (set 1 2)) (do r1) (block (do r1) (do (set 2 0)) (do r2)) (do r1)) (do r0)",
		"int i=1;{int i=i;i;}", "(do (set 0 1)) (block (do (set 1 r0)) (do r1))", "int i=1;{char*i=(char*)&i;}", "(do (store f0 1)) (block (do (store f1 f0)))", "int i=1;{int i=i+(i=2);}i;", "(do (set 0 1)) (block (do (set 1 (add r0 (set 0 2))))) (do r0)",
		"if(1)int i=2;i;", "(if 1 (do (set 0 2)) -) (do r0)", "x:int i;goto x;", "(label x (do (set 0 0))) (goto x)", "x:int a[2];goto x;", "(label x (empty)) (goto x)", "switch(1){int i;case 1:i;}", "(switch 1 (block (do (set 0 0)) (case 1 (do r0))))", "while(1)int i;i;", "(while 1 (do (set 0 0))) (do r0)",
		// Wherever in the function its name is an operand of &, it is in the frame, and so is each other scalar of that name.
		"int i;{int i;{&i;}}{int i;i;}i;int j;", "(do (store f0 0)) (block (do (store f1 0)) (block (do f1))) (block (do (store f2 0)) (do (load f2))) (do (load f0)) (do (set 0 0))", "int i;if(0)(&(i));", "(do (store f0 0)) (if 0 (do f0) -)", "int i;int j;j+*&i;", "(do (store f0 0)) (do (set 0 0)) (do (add r0 (load f0)))", "int i;for(;;&i);", "(do (store f0 0)) (for - - f0 (empty))", "int i;switch(1){case 1:return*&i;}", "(do (store f0 0)) (switch 1 (block (case 1 (give (load f0)))))", "int i;int*p=&i;", "(do (store f0 0)) (do (set 0 f0))",
		// An operand of & that is no name does not matter.
		"int i;int a[2];&a[i];", "(do (set 0 0)) (empty) (do (add f0 r0))", "int*p;&*p;&p[1];", "(do (set 0 0)) (do r0) (do (add r0 1))", "int i;int j;i&j;", "(do (set 0 0)) (do (set 1 0)) (do (and r0 r1))", "int i;i&=1;", "(do (set 0 0)) (do (set 0 (and r0 1)))")
	flawed(t, api.ErrName, "int i=@i;", "@x;int x;", "{int i;}@i;", "{int i;{}}{@i;}", "int i;@int i;", "int i;@char i[2];", "int a[2];@int a;", "{int i;@int*i=0;}", "int i;if(1)@int i;", "int i;{int i;@int i;}", "if(1){int j;}@j;", "while(1){int i;}@i=1;", "int i=1+@j;int j;", "int k;@int k=x;")
	flawed(t, api.ErrType, "@void v;", "@void v[2];", "@struct s s;", "@struct s a[2];", "int a[2];@int*p=&a;", "@int a[2]=0;", "@int a[2]=1;", "@char a[2]=x;", "@int*p=1;", "int*p;@int i=p;", "char*q;@int*p=q;", "@void v=1;", "int a[2];@int b=a;")
	flawed(t, api.ErrLong, "@int a[0];", "@char a[1025];", "@struct s*a[4294967295];")
	refused(t, "struct s{int x;};int main(){struct s a;@struct s b=a;}", api.ErrType)
	refused(t, "struct s{int x;};int main(){@struct s b=0;}", api.ErrType)
	whole(t, "struct s{int x[5];};int main(){struct s a;struct s b[2];struct s*p=b;return p->x[1];}", "1", "main 0 1 15 (block (block (empty) (empty) (do (set 0 f5)) (give (load (add r0 1)))))")
}

func TestParameters(t *testing.T) {
	rest := "int main(){}"
	end := "main 0 0 0 (block (block))"
	whole(t, "int f(int a,char b,int*c){return a;}"+rest, "1", "f 3 3 0 (block (block (give r0)))", end)
	whole(t, "int f(int a,char b,int*c){int d;return b;}"+rest, "1", "f 3 4 0 (block (block (do (set 3 0)) (give r1)))", end)
	// A parameter whose name is an operand of & is put into the frame first.
	whole(t, "int f(int a,char b,int*c){&c;&a;int d;&d;return a+b+*c;}"+rest, "1", "f 3 3 3 (block (do (store f0 r0)) (do (store f1 r2)) (block (do f1) (do f0) (do (store f2 0)) (do f2) (give (add (add (load f0) r1) (load (load f1))))))", end)
	whole(t, "int f(char b){if(0)&b;b=300;return b;}"+rest, "1", "f 1 1 1 (block (do (store f0 r0)) (block (if 0 (do f0) -) (do (store f0 (low 300))) (give (load f0))))", end)
	whole(t, "int f(int a,int b,int c,int d,int e,int g){&a;&b;&c;&d;&e;&g;}"+rest, "1", "f 6 6 6 (block (do (store f0 r0)) (do (store f1 r1)) (do (store f2 r2)) (do (store f3 r3)) (do (store f4 r4)) (do (store f5 r5)) (block (do f0) (do f1) (do f2) (do f3) (do f4) (do f5)))", end)
	// The block of the source is within the one that has the parameters, so its names are other ones.
	whole(t, "int f(int a){int a=a;{int a=2;return a;}}"+rest, "1", "f 1 3 0 (block (block (do (set 1 r0)) (block (do (set 2 2)) (give r2))))", end)
	whole(t, "int f(int a){{int a;&a;}return a;}"+rest, "1", "f 1 1 2 (block (do (store f0 r0)) (block (block (do (store f1 0)) (do f1)) (give (load f0))))", end)
	// Another function's names are not its names.
	refused(t, "int f(int a){}int main(){return @a;}", api.ErrName)
	refused(t, "int f(){int a;}int g(int b){return @a;}int main(){}", api.ErrName)
	whole(t, "int f(int a){&a;}int g(int a){return a;}"+rest, "1", "f 1 1 1 (block (do (store f0 r0)) (block (do f0)))", "g 1 1 0 (block (block (give r0)))", end)
	for _, params := range []string{"int a,@int a", "int a,char b,@int*a", "int a,@void a", "int a,int b,@int b,int a"} {
		refused(t, "int f("+params+"){}"+rest, api.ErrName)
	}
	for _, params := range []string{"@void a", "int a,@void b", "@struct s a", "int*a,@struct t b,void c"} {
		refused(t, "struct s{int x;};int f("+params+"){}"+rest, api.ErrType)
	}
}
