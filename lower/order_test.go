package lower_test

import (
	"strings"
	"testing"

	"doppel/api"
)

// TestKept holds that what was read keeps the value that it had then, whatever is evaluated behind it, where the variable is in a register, in the frame, and global.
func TestKept(t *testing.T) {
	for expression, n := range map[string]int{
		"x+(x=5)": 8, "(x=5)+x": 10, "x+x++": 6, "x+++x": 7, "x+++x++": 7, "++x+x": 8, "x+ ++x": 7, "x-x--": 0, "x-- -x": 1, "x+(x=5)*x": 28, "x*(x+=2)-x": 10, "x*10+(x=x+1)*x": 46,
		"x<(x=9)": 1, "x==x++": 1, "x!=x++": 0, "x<<(x=2)": 12, "(x=2)<<x": 8, "x%(x=2)": 1, "x/(x=1)": 3,
		"two(x,x=2)": 32, "two(x=2,x)": 22, "two(x,x++)": 33, "two(x++,x)": 34, "two(x++,x++)": 34, "two(++x,++x)": 45, "three(x,x=5,x)": 355, "three(x,x++,x)": 334, "two(x,two(x=1,x))": 41, "two(two(x,x=4),x)": 344, "two(x,id(x=8))": 38,
		"x+(x?x=7:1)": 10, "x+(0?1:(x=7))": 10, "(x?x:0)+(x=7)": 10, "(x=7)+(x?x:0)": 14, "x+(x&&(x=7))": 4, "x+(x||(x=7))": 4, "x+(!x||(x=7))+x": 11, "(x||1)+(x=0)": 1, "(x&&1)*10+(x=2)": 12,
		"x-(char)(x=258)": 1, "-x+(x=1)": -2, "~x+(x=1)": -3, "!x+(x=0)": 0, "(x)+(x=0)": 3, "(char)x+(x=0)": 3, "(x=x)+(x=1)": 4, "(x=1)+(x=x+1)+x": 5, "(x+=1)+(x+=1)": 9, "x+=x=5": 8, "x=x+(x=5)": 8, "x*=x++": 9, "(x=4)*(x=5)*x": 100, "x+two(x,x)+(x=0)+x": 36,
		"x+putc(x=65)+x": 133, "x+(putc(x)?x=1:0)": 4, "y[x=1]+x": 12, "x+y[x=1]": 14, "y[x]+y[x=0]": 23, "y[x=2]=x": 2, "(y[x]=7)+(x=0)+y[3]": 14, "y[x--]+x": 15, "y[--x]+x": 14, "y[x]++ +(x=2)": 15, "*(y+x)+(x=0)": 13, "(y[x]=x)+(x=0)": 3, "(y[0]+=x)+(x=9)": 22,
	} {
		const functions = "int two(int a,int b){return a*10+b;}int three(int a,int b,int c){return two(two(a,b),c);}int id(int a){return a;}"
		for _, variable := range []string{"int main(){int x;", "int main(){int x;&x;", "int x;int main(){", "unsigned x;int main(){", "int main(){unsigned x;", "int f(int x){", "int f(int x){&x;"} {
			body := "int y[4];int i;for(i=0;i<4;i++)y[i]=10+i;x=3;return " + expression + ";}"
			if strings.HasPrefix(variable, "int f") {
				body += "int main(){return f(8);}"
			}
			output := ""
			switch {
			case strings.Contains(expression, "putc(x=65)"):
				output = "A"
			case strings.Contains(expression, "putc(x)"):
				output = "\x03"
			}
			comes(t, functions+variable+body, "", result(api.Exit, n, output))
		}
	}
}

// TestOrder holds that all parts are evaluated from left to right.
func TestOrder(t *testing.T) {
	const functions = "int p(int n){putc(n);return n-'a';}int six(int a,int b,int c,int d,int e,int f){return putc('!');}int y[30];int*q(int n){putc(n);return y;}"
	for expression, output := range map[string]string{
		"p('a')+p('b')": "ab", "p('a')+p('b')*p('c')": "abc", "(p('a')+p('b'))*p('c')": "abc", "p('a')-(p('b')-p('c'))": "abc", "p('b')==p('a')": "ba", "p('a')<p('b')": "ab", "p('a')>p('b')": "ab", "p('a')>=p('b')<=p('c')": "abc",
		"six(p('f'),p('e'),p('d'),p('c'),p('b'),p('a'))": "fedcba!", "six(p('a'),six(1,2,3,4,5,p('b')),p('c'),4,5,6)": "ab!c!", "y[p('a')]=p('b')": "ab", "q('x')[p('a')]=p('b')": "xab", "*q('x')=p('b')": "xb", "*q('x')+=p('b')": "xb", "y[p('c')]=y[p('b')]=p('a')": "cba", "q('x')[p('a')]++": "xa", "++q('x')[p('a')]": "xa", "q('x')[p('c')]+=q('y')[p('b')]": "xcyb",
		"p('b')?p('c'):p('d')": "bc", "p('a')?p('c'):p('d')": "ad", "p('b')&&p('c')": "bc", "p('a')&&p('c')": "a", "p('b')||p('c')": "b", "p('a')||p('c')": "ac", "p('a')||p('b')&&p('c')||p('d')": "abc", "p('b')+(p('a')&&p('c'))+p('d')": "bad", "-p('a')+!p('b')": "ab", "putc(putc(p('a'))+p('b'))": "a\x00b\x01",
	} {
		comes(t, functions+"int main(){"+expression+";}", "", result(api.Exit, 0, output))
		comes(t, functions+"int main(){int n="+expression+";return n-n;}", "", result(api.Exit, 0, output))
		comes(t, functions+"int g(){return "+expression+";}int main(){g();}", "", result(api.Exit, 0, output))
	}
	// The input is read in the order of the source.
	comes(t, "int main(){return getc()*1000+getc();}", "A", exit(64999))
	comes(t, "int f(int a,int b){return a-b;}int main(){return f(getc(),getc())*1000+getc();}", "CA\xff", exit(2255))
	comes(t, "int main(){int c;while((c=getc())>=0)putc(c);return c;}", "\x00ab\xff", result(api.Exit, -1, "\x00ab\xff"))
}

// TestTraps holds that a trap comes where it comes in core: what went out ahead of it is there, and nothing else.
func TestTraps(t *testing.T) {
	const functions = "int z;int p(int n){putc(n);return n;}int f(int a,int b){putc('f');return a;}int bad(){putc('x');return 1/z;}"
	for expression, r := range map[string]api.Result{
		"p('a')/z": trap(2, "a"), "p('a')%z": trap(2, "a"), "p('a')/(unsigned)z": trap(2, "a"), "p('a')%(unsigned)z": trap(2, "a"), "p('a')+1/z+p('b')": trap(2, "a"), "p('a')/(p('b')-'b')": trap(2, "ab"), "1/z": trap(2, ""), "z/z": trap(2, ""), "p('a')/z*p('b')": trap(2, "a"),
		"f(p('a'),1/z)": trap(2, "a"), "f(1/z,p('a'))": trap(2, ""), "f(p('a'),p('b'))/z": trap(2, "abf"), "bad()": trap(2, "x"), "p('a')+bad()+p('b')": trap(2, "ax"), "f(bad(),p('a'))": trap(2, "x"), "putc(1/z)": trap(2, ""), "p('a')&&1/z": trap(2, "a"), "p('a')||1/z": result(api.Exit, 0, "a"), "z&&1/z": exit(0), "z?1/z:p('a')": result(api.Exit, 0, "a"), "p('a')?1/z:p('b')": trap(2, "a"),
		"*(int*)0": trap(1, ""), "*(int*)p('a')": result(api.Exit, 0, "a"), "*(int*)(p('a')-'a')": trap(1, "a"), "*(int*)4095": exit(0), "*(int*)4096": trap(1, ""), "*(int*)-1": trap(1, ""), "*(int*)0=p('a')": trap(1, "a"), "*(int*)4096=p('a')": trap(1, "a"), "*(int*)(p('a')*1000)=p('b')": trap(1, "ab"), "*(int*)0=1/z": trap(2, ""), "*(int*)0+=p('a')": trap(1, ""), "(*(int*)0)++": trap(1, ""), "*(int*)(1/z)=p('a')": trap(2, ""), "*(int*)4095=p('a')": result(api.Exit, 0, "a"),
		"z=1/z": trap(2, ""), "z+=1/z": trap(2, ""), "z/=z": trap(2, ""), "z%=p('a')-'a'": trap(2, "a"), "*(int*)*(int*)0": trap(1, ""), "(char)(1/z)": trap(2, ""), "-(1/z)": trap(2, ""), "!(1/z)": trap(2, ""),
	} {
		// What is not used is evaluated, too.
		comes(t, functions+"int main(){"+expression+";}", "", r)
		comes(t, functions+"int main(){int n="+expression+";return n-n;}", "", r)
		comes(t, functions+"int h(){"+expression+";}int main(){return h();}", "", r)
		r.Output = append([]byte("A"), r.Output...)
		comes(t, functions+"int main(){putc('A');for(;;){"+expression+";break;}}", "", r)
	}
}

// TestFull has functions that call themselves until nothing fits.
func TestFull(t *testing.T) {
	for source, output := range map[string]string{
		"int f(){int a[1000];putc(65);return f();}int main(){return f();}":                                                      "AAAA",
		"int f(){int a[1000];int b[94];putc(65);return f();}int main(){int a;&a;f();}":                                          "AAA",
		"int main(){int a[1000];putc(65);main();putc(66);}":                                                                     "AAAA",
		"int f(int n){&n;putc(65);return f(n+1)+f(n);}int g[1000];int h[1000];int i[1000];int j[1000];int main(){return f(1);}": strings.Repeat("A", 95),
		"int g[1000];int h[1000];int i[1000];int j[900];int k[194];int main(){putc(65);int a;&a;int b;&b;}":                     "",
		"int a(){int x[300];putc('a');return b();}int b(){int x[700];putc('b');return a();}int main(){return a();}":             "abababab",
		"int f(int n){int x[1000];if(n)return f(n-1);putc(65);return f(9);}int main(){f(3);}":                                   "A",
		"int p(int n){putc(n);return n;}int f(int n){int x[1024];return f(p(n));}int main(){p(65);f(66);}":                      "ABBB",
	} {
		comes(t, source, "", result(api.Full, 0, output))
	}
	// One word less, and all of it fits.
	comes(t, "int g[1000];int h[1000];int i[1000];int j[900];int k[194];int main(){putc(65);int a;&a;}", "", result(api.Exit, 0, "A"))
}
