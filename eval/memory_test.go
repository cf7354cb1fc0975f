package eval_test

import (
	"testing"

	"doppel/api"
	"doppel/core"
	"doppel/eval"
)

// TestMemoryAtFirst has globals of one word and of several, with and without an initial value.
func TestMemoryAtFirst(t *testing.T) {
	const globals = "struct s{int a;char b[2];};int one=5;int none;int many[3];int low=-7;unsigned high=4294967295;char c='x';char cut=321;struct s both;int*p=0;int last=9;"
	words := map[int]int{1: 5, 6: -7, 7: -1, 8: 'x', 9: 65, 14: 9}
	for _, at := range []int{1, 2, 3, 4, 5, 6, 7, 8, 9, 10, 11, 12, 13, 14, 15, 16, 100, 4094, 4095} {
		comes(t, globals+"int main(){return *(int*)"+number(at)+";}", "", exit(words[at]))
	}
	gives(t, map[string]int{
		globals + "int main(){int n=0;int i;for(i=1;i<4096;i++)if(*(int*)i)n++;return n;}":                            len(words),
		globals + "int main(){return one+none+many[0]+many[2]+low+(int)high+c+cut+both.a+both.b[1]+(int)p+last;}":     5 - 7 - 1 + 'x' + 65 + 9,
		globals + "int main(){many[1]=3;none=4;both.b[0]=300;return one*1000+many[0]+many[1]*100+none*10+both.b[0];}": 5384,
		"int g=5;int f(){return g++;}int main(){f();f();return g*10+f();}":                                            77,
	})
}

// TestGlobals has globals as a program may say them.
func TestGlobals(t *testing.T) {
	p := returns(node(core.Num, 3), node(core.Load, 0, 0))
	for at, word := range map[int]int{1: 0, 2: 0, 3: 6, 4: 0} {
		p.Globals = []api.Global{{Name: "a", At: at, Size: 2, Init: word}, {Name: "b", At: 5, Size: 1, Init: 9}}
		want(t, "a global at "+number(at), eval.Run(p, nil, plenty), exit(word))
	}
}

// TestAddresses has Load and Store at addresses that are valid and that are not.
func TestAddresses(t *testing.T) {
	for address, is := range map[string]bool{
		"1": true, "2": true, "100": true, "4094": true, "4095": true,
		"0": false, "4096": false, "4097": false, "8191": false, "8192": false, "65537": false, "-1": false, "-2": false, "-4095": false, "-4096": false, "2147483647": false, "2147483648": false, "0x80000001": false, "0xfffff001": false, "4294967295": false,
	} {
		load, store := result(api.Trap, 1, ""), result(api.Trap, 1, "")
		if is {
			load, store = exit(0), exit(6)
		}
		comes(t, "int main(){return *(int*)("+address+");}", "", load)
		comes(t, "int main(){return *(char*)("+address+");}", "", load)
		comes(t, "int main(){return *(int*)("+address+")=6;}", "", store)
		comes(t, "int main(){*(int*)("+address+")=6;return *(int*)("+address+");}", "", store)
		comes(t, "int main(){int*p=(int*)("+address+");*p+=6;return *p;}", "", store)
	}
	for source, r := range map[string]api.Result{
		"int a[1024];int b[1024];int c[1024];int d[1023];int main(){d[1022]=5;return d[1022];}": exit(5), "int a[1024];int b[1024];int c[1024];int d[1023];int main(){return d[1023];}": result(api.Trap, 1, ""),
		"int a;int main(){*(&a-1)=5;}": result(api.Trap, 1, ""), "int a;int main(){return (&a)[-1];}": result(api.Trap, 1, ""), "int a=3;int main(){return (&a)[0];}": exit(3), "int*p;int main(){return *p;}": result(api.Trap, 1, ""), "struct s{int a;int b;};struct s*p;int main(){return p->a;}": result(api.Trap, 1, ""), "struct s{int a;int b;};struct s*p;int main(){return p->b=4;}": exit(4),
	} {
		comes(t, source, "", r)
	}
}

// TestFramesThatFit has frames that fit exactly, and those that have one word too many, of main and of a function that is called.
func TestFramesThatFit(t *testing.T) {
	const three = "int a[1024];int b[1024];int c[1024];"
	full := result(api.Full, 0, "")
	for source, r := range map[string]api.Result{
		"int main(){" + three + "int d[1023];d[1022]=5;return d[1022];}":                                                              exit(5),
		"int main(){" + three + "int d[1024];return 5;}":                                                                              full,
		"int g;int main(){" + three + "int d[1022];return 5;}":                                                                        exit(5),
		"int g;int main(){" + three + "int d[1023];return 5;}":                                                                        full,
		three + "int main(){int d[1023];return 5;}":                                                                                   exit(5),
		three + "int main(){int d[1024];return 5;}":                                                                                   full,
		three + "int d[1023];int main(){return 5;}":                                                                                   exit(5),
		three + "int d[1023];int main(){int e;&e;return 5;}":                                                                          full,
		three + "int d[1023];int f(int n){return n;}int main(){int i;for(i=0;f(i)<5;i++);return i;}":                                  exit(5),
		"int f(){" + three + "return 5;}int main(){int d[1023];return f();}":                                                          exit(5),
		"int f(){" + three + "return 5;}int main(){int d[1024];return f();}":                                                          full,
		"int f(){" + three + "return 5;}int main(){int d[1023];f();f();return f();}":                                                  exit(5),
		"int f(){" + three + "return 5;}int g(){int d[500];return f();}int main(){int e[523];return f()*10+g();}":                     exit(55),
		"int f(){" + three + "return 5;}int g(){int d[500];return f();}int main(){int e[524];return f()*10+g();}":                     full,
		"int f(){" + three + "return 5;}int g(){int d[1023];while(1){return 1;}}int main(){int i;for(i=0;i<9;i++)g();return f();}":    exit(5),
		"int f(){" + three + "return 5;}int g(){int d[1023];goto x;x:;}int main(){int i;for(i=0;i<9;i++)g();int e[1023];return f();}": exit(5),
		"int f(int n){int a[500];if(n)return f(n-1);return 5;}int main(){f(7);return f(7);}":                                          exit(5),
		"int f(int n){int a[500];if(n)return f(n-1);return 5;}int main(){f(7);return f(8);}":                                          full,
	} {
		comes(t, source, "", r)
	}
	comes(t, "int f(int n){"+three+"putc(70);}int main(){int d[1024];putc(65);f(putc(66));putc(67);}", "", result(api.Full, 0, "AB"))
}

// TestFramesAheadOfFuel holds that a frame is there, or is not, before any fuel is used in the function.
func TestFramesAheadOfFuel(t *testing.T) {
	const four = "int a[1024];int b[1024];int c[1024];int d[1024];"
	for _, fuel := range []int{-5, 0, 1, 2, 5, plenty} {
		source := "int main(){" + four + "return 5;}"
		want(t, source, behaves(t, source, "", fuel), result(api.Full, 0, ""))
	}
	// Main's body, its block, the return, the call, and the argument.
	source := "int f(int n){" + four + "return n;}int main(){return f(5);}"
	for fuel := range 5 {
		want(t, source, behaves(t, source, "", fuel), result(api.Spent, 0, ""))
	}
	for fuel := 5; fuel < 9; fuel++ {
		want(t, source, behaves(t, source, "", fuel), result(api.Full, 0, ""))
	}
}

// TestFramesKept holds that a frame has what the words had before.
func TestFramesKept(t *testing.T) {
	gives(t, map[string]int{
		"int f(int n){int a[2];if(n)a[1]=n;return a[1];}int main(){f(7);return f(0);}":                                               7,
		"int f(int n){int a[2];if(n)a[1]=n;return a[1];}int main(){int x=f(0);f(7);return x*100+f(0);}":                              7,
		"void f(){int a[3];a[0]=1;a[1]=2;a[2]=3;}int g(){int b[3];return b[0]*100+b[1]*10+b[2];}int main(){f();return g();}":         123,
		"void f(){int a[3];a[0]=1;a[1]=2;a[2]=3;}int g(){int c;int b[2];&c;return c*100+b[0]*10+b[1];}int main(){f();return g();}":   23,
		"int f(int n){int a[1];a[0]=n;if(n)f(n-1);return a[0];}int main(){return f(5);}":                                             5,
		"int f(int n){int a[1];if(n){f(n-1);return a[0];}int b[1];b[0]=6;a[0]=9;}int main(){f(1);return f(1)+*(int*)3*10+*(int*)4;}": 96,
		"int*f(int n){&n;return &n;}int main(){int*p=f(5);int*q=f(6);return (p==q)*10+*p;}":                                          16,
		"int*f(int n){return &n;}int*g(int n){int a[1];return f(n);}int main(){int x=1;return (int)&x*100+(int)f(7)*10+(int)g(8);}":  123,
	})
}

// TestRegisters holds that registers are those of a call, and 0 at first.
func TestRegisters(t *testing.T) {
	gives(t, map[string]int{
		"int f(int n){if(n)goto x;{int a=5;x:return a;}}int main(){return f(0)*100+f(1)*10+f(0);}":                             505,
		"int f(int n){goto x;{int a;int b=n;x:a++;if(n){f(n-1);}return a*10+b;}}int main(){return f(3);}":                      10,
		"int f(int n){int m=n+1;if(n<5)f(m);n=n*2;return n*10+m;}int main(){int a=3;int b=f(a);return b+a;}":                   67,
		"int f(int n){n=9;return n;}int main(){int n=4;f(n);return n;}":                                                        4,
		"int f(int a,int b){if(a)return f(b,0)*10+a;return b;}int main(){return f(3,4);}":                                      43,
		"int f(int a,int b,int c){return a*100+b*10+c;}int main(){int c=1;int a=2;int b=3;return f(a,b,c)+f(c,a,b)+f(0,0,a);}": 231 + 123 + 2,
	})
}
