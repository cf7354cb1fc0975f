package lower_test

import (
	"strings"
	"testing"

	"doppel/api"
)

func truth(is bool) int {
	if is {
		return 1
	}
	return 0
}

// ends are words at both ends of what a word may be, of a byte and of a shift.
func ends() []int32 {
	return []int32{-1 << 31, -1<<31 + 1, -257, -256, -2, -1, 0, 1, 2, 7, 31, 32, 33, 127, 128, 255, 256, 4095, 4096, 1<<31 - 2, 1<<31 - 1}
}

// written is a word as a number of the source, of the type int.
func written(n int32) string { return "(int)" + number(int(uint32(n))) + "u" }

// signed is what an operator on two ints yields.
func signed(sign string, a, b int32) int {
	low := uint32(b) % 32
	switch sign {
	case "+":
		return int(a + b)
	case "-":
		return int(a - b)
	case "*":
		return int(a * b)
	case "/":
		return int(a / b)
	case "%":
		return int(a % b)
	case "&":
		return int(a & b)
	case "|":
		return int(a | b)
	case "^":
		return int(a ^ b)
	case "<<":
		return int(a << low)
	case ">>":
		return int(a >> low)
	}
	return compared(sign, int(a), int(b))
}

// unsigned is what an operator on two unsigned numbers yields, as a word.
func unsigned(sign string, a, b uint32) int {
	switch sign {
	case "/":
		return int(int32(a / b))
	case "%":
		return int(int32(a % b))
	case ">>":
		return int(int32(a >> (b % 32)))
	case "==", "!=", "<", "<=", ">", ">=":
		return compared(sign, int(a), int(b))
	}
	return signed(sign, int32(a), int32(b))
}

func compared(sign string, a, b int) int {
	switch sign {
	case "==":
		return truth(a == b)
	case "!=":
		return truth(a != b)
	case "<":
		return truth(a < b)
	case "<=":
		return truth(a <= b)
	case ">":
		return truth(a > b)
	}
	return truth(a >= b)
}

// TestOperators has each operator on two words, with words at both ends.
func TestOperators(t *testing.T) {
	for _, sign := range []string{"+", "-", "*", "/", "%", "&", "|", "^", "<<", ">>", "==", "!=", "<", "<=", ">", ">="} {
		for _, a := range ends() {
			for _, b := range ends() {
				of, ofUnsigned := trap(2, ""), trap(2, "")
				if b != 0 || sign != "/" && sign != "%" {
					of, ofUnsigned = exit(signed(sign, a, b)), exit(unsigned(sign, uint32(a), uint32(b)))
				}
				comes(t, "int main(){int a="+written(a)+";int b="+written(b)+";return a"+sign+"b;}", "", of)
				comes(t, "unsigned f(unsigned a,unsigned b){return a"+sign+"b;}int main(){return f("+written(a)+","+written(b)+");}", "", ofUnsigned)
			}
		}
	}
}

// TestOperatorsOnOne has each operator on one word, with words at both ends.
func TestOperatorsOnOne(t *testing.T) {
	for _, a := range ends() {
		for prefix, n := range map[string]int{
			"-": int(-a), "~": int(^a), "!": truth(a == 0), "(char)": int(a & 255), "(int)": int(a), "(unsigned)": int(a), "(int)(void*)": int(a),
			"!!": truth(a != 0), "- -": int(a), "~~": int(a), "-~": int(a + 1), "(char)-": int(-a & 255), "-(char)": -int(a & 255), "!(char)": truth(a&255 == 0),
		} {
			comes(t, "int main(){int a="+written(a)+";return "+prefix+"a;}", "", exit(n))
		}
		comes(t, "int main(){return "+written(a)+";}", "", exit(int(a)))
		comes(t, "int main(){char c="+written(a)+";return c;}", "", exit(int(a&255)))
		comes(t, "char f(int a){return a;}int main(){return f("+written(a)+");}", "", exit(int(a&255)))
		comes(t, "int f(char a){return a;}int main(){return f("+written(a)+");}", "", exit(int(a&255)))
		comes(t, "int main(){return putc("+written(a)+");}", "", result(api.Exit, int(a&255), string([]byte{byte(a)})))
		comes(t, "int main(){putc("+written(a)+");}", "", result(api.Exit, 0, string([]byte{byte(a)})))
		comes(t, "int main(){if("+written(a)+")return 5;return 6;}", "", exit(6-truth(a != 0)))
	}
}

// TestShort has && and ||, whose right side is evaluated only if that tells the value.
func TestShort(t *testing.T) {
	gives(t, map[string]int{
		"int main(){return 0&&1/0;}": 0, "int main(){return 1||1/0;}": 1, "int main(){return 0&&*(int*)0;}": 0, "int main(){return 5||*(int*)0;}": 1,
		"int main(){return 7&&8;}": 1, "int main(){return 7&&0;}": 0, "int main(){return 0||8;}": 1, "int main(){return 0||0;}": 0, "int main(){return 7||0;}": 1, "int main(){return 256&&-1;}": 1,
		"int main(){int a=0;int b=0;a++&&b++;a++||b++;return a*10+b;}": 20, "int main(){int a=1;int b=0;a++&&b++;a++||b++;return a*10+b;}": 31,
		"int main(){int a=3;return (a=0)||(a=5)&&a;}": 1, "int main(){int a=3;(a=0)&&(a=5);return a;}": 0, "int main(){int a=3;return ((a=2)&&a)+a;}": 3,
		"int main(){return !(1&&0)&&!(0||0);}": 1, "int main(){return (1&&2)+(0||3)*10+(0&&4)*100;}": 11, "int main(){return 1?2:1/0;}": 2, "int main(){return 0?1/0:3;}": 3,
		"int main(){int x=5;return (x?x=7:(x=9))*10+x;}": 77, "int main(){int x=0;return (x?x=7:(x=9))*10+x;}": 99,
		"int main(){return 1?0?1:2:3;}": 2, "int main(){return 0?1:0?2:3;}": 3, "int main(){int*p=0;return p?*p:4;}": 4, "int main(){int a=6;int*p=&a;return p&&*p?*p:4;}": 6,
	})
	puts(t, map[string]string{
		"int main(){putc(97)&&putc(98);}": "ab", "int main(){putc(97)||putc(98);}": "a", "int main(){putc(0)&&putc(98);}": "\x00", "int main(){putc(256)||putc(98);}": "\x00b",
		"int main(){putc('a'+(putc(98)&&putc(0)||putc(99)));}": "b\x00cb", "int main(){1?putc(97):putc(98);0?putc(97):putc(98);}": "ab", "int main(){putc(97)&&putc(98)&&putc(0)&&putc(99);}": "ab\x00",
	})
}

// TestChars has what conversions to char cut off, wherever they stand.
func TestChars(t *testing.T) {
	gives(t, map[string]int{
		"int main(){char c=300;return c;}": 44, "char c=-1;int main(){return c;}": 255, "int main(){char c[2];c[1]=-2;return c[1];}": 254, "int main(){char c;return c=257;}": 1,
		"int main(){char c=255;return ++c;}": 0, "int main(){char c=0;return --c;}": 255, "int main(){char c=255;return c++*10+c;}": 2550, "int main(){char c=250;c+=10;return c;}": 4, "int main(){char c=3;c*=100;return c;}": 44,
		"struct s{char c;};int main(){struct s v;v.c=511;v.c+=2;return v.c;}": 1, "int main(){char c=200;char*p=&c;*p+=100;return c;}": 44, "int main(){char c=-1;return c>0;}": 1, "int main(){return (char)(1?300:2)+(char)511;}": 299,
		"int main(){char c=7;char*p=&c;*(int*)p=300;return c;}": 300, "char f(char c){return c+1;}int main(){return f(f(255));}": 1,
	})
}

// TestAssignments has each way of assigning, to variables in registers, in frames, in globals, by pointers, and in fields.
func TestAssignments(t *testing.T) {
	for _, way := range []struct{ before, object string }{
		{"int x;", "x"}, {"int x;&x;", "x"}, {"int x;int*p=&x;", "(*p)"}, {"int x[3];", "x[1]"}, {"int x[3];int*p=x+2;", "p[-1]"}, {"struct s v;", "v.i"}, {"struct s v;struct s*p=&v;", "p->i"}, {"struct s*p=w+1;", "p->i"}, {"", "g"}, {"int*p=&g;", "(*p)"}, {"", "a[2]"}, {"", "w[1].i"}, {"unsigned x;", "x"}, {"int x;int*p=&x;int**q=&p;", "(**q)"},
	} {
		for assignment, values := range map[string][2]int{
			"X=5": {5, 5}, "X=X": {100, 100}, "X=X=7": {7, 7}, "X+=5": {105, 105}, "X-=5": {95, 95}, "X*=5": {500, 500}, "X/=7": {14, 14}, "X%=7": {2, 2}, "X&=38": {36, 36}, "X|=3": {103, 103}, "X^=7": {99, 99}, "X<<=3": {800, 800}, "X>>=3": {12, 12},
			"++X": {101, 101}, "--X": {99, 99}, "X++": {100, 101}, "X--": {100, 99}, "X+=X+=X": {300, 300}, "X+=X=3": {103, 103}, "X=X+++X": {201, 201}, "X-=X++": {0, 0},
		} {
			text := strings.ReplaceAll(assignment, "X", way.object)
			source := "struct s{char c;int i;};struct s w[2];int g;int a[3];int main(){" + way.before + way.object + "=100;int value=" + text + ";putc(value>>8);putc(value);return " + way.object + ";}"
			value := []byte{byte(values[0] >> 8), byte(values[0])}
			comes(t, source, "", result(api.Exit, values[1], string(value)))
		}
	}
}

// TestCalls has functions with 0 to 6 parameters, with and without a result, that call one another.
func TestCalls(t *testing.T) {
	const functions = `int g;int zero(){return 7;}int one(int a){return a;}int two(int a,int b){return a*10+b;}int three(int a,int b,int c){return two(two(a,b),c);}
int four(int a,int b,int c,int d){return two(three(a,b,c),d);}int five(int a,int b,int c,int d,int e){return two(four(a,b,c,d),e);}int six(int a,int b,int c,int d,int e,int f){return two(five(a,b,c,d,e),f);}
void put(int a){putc(a);}void twice(int a,int b){put(a);put(b);}void all(int a,int b,int c,int d,int e,int f){twice(a,b);twice(c,d);twice(e,f);}void keep(int a){g=a;return;}
int even(int n){if(n==0)return 1;return odd(n-1);}int odd(int n){if(n==0)return 0;return even(n-1);}int fib(int n){return n<2?n:fib(n-1)+fib(n-2);}int own(int a){int*p=&a;*p+=1;return a;}
int main(){`
	for body, n := range map[string]int{
		"return zero();": 7, "return one(5);": 5, "return two(1,2);": 12, "return three(1,2,3);": 123, "return four(1,2,3,4);": 1234, "return five(1,2,3,4,5);": 12345, "return six(1,2,3,4,5,6);": 123456, "return six(6,5,4,3,2,1);": 654321,
		"return two(two(1,2),two(3,4));": 154, "return one(one(one(3)));": 3, "return even(10)*10+odd(10);": 10, "return fib(10);": 55, "return own(own(3));": 5, "int a=3;own(a);return a;": 3, "zero();one(1);return 2;": 2, "keep(9);return g;": 9, "int i;for(keep(1);g<5;keep(g+1))i+=g;return i;": 10,
	} {
		comes(t, functions+body+"}", "", exit(n))
	}
	comes(t, functions+"all('a','b','c','d','e','f');put(65);return one(putc('z'));}", "", result(api.Exit, 'z', "abcdefAz"))
	// What a function without a return returns, and one whose call is the end of it.
	gives(t, map[string]int{"int f(){}int main(){return f();}": 0, "int f(int n){n=5;}int main(){return f(3);}": 0, "int f(int n){if(n)return 5;}int main(){return f(1)*10+f(0);}": 50, "int f(){return 3;}int main(){f();}": 0, "int main(){return;}": 0, "int f(){return;return 5;}int main(){return f();}": 0, "int main(){5;}": 0, "int main(){}": 0})
}

// TestAddresses has addresses of locals, of elements and of fields, with frames behind one another.
func TestAddresses(t *testing.T) {
	gives(t, map[string]int{
		"int g;int main(){return (int)&g;}": 1, "int g[7];int h;int main(){return (int)&h;}": 8, "int g[7];int main(){return (int)&g[3]*10+(int)g;}": 41, "int g[2];int main(){int a;return (int)&a;}": 3, "int main(){int b[5];int a;return (int)&a;}": 6, "int main(){int a;int b;return &b-&a;}": 1,
		"struct s{int a;int b[3];int c;};int main(){struct s v[2];return ((int)&v[1].b[2]-(int)v)*10+(int)&v[0].c-(int)&v;}": 84, "struct s{int a;int b;};int main(){struct s v;struct s*p=&v;return (int)&p->b-(int)p;}": 1, "struct s{int a;int b;};int main(){struct s v[3];struct s*p=v+2;return p-v;}": 2,
		"int f(int a){return (int)&a;}int main(){int x[5];return f(0)*10+(int)x;}": 61, "int f(){int a;return (int)&a;}int h(){int a[3];return f();}int main(){return f()*10+h();}": 14, "int f(int*p){*p=9;return 1;}int main(){int a=3;return f(&a)*10+a;}": 19,
		"int f(int n){int a;&a;a=n;if(n)f(n-1);return a;}int main(){return f(5);}": 5, "int f(){int a[2];return a[1]++;}int main(){f();f();return f();}": 2, "int*p;int f(){int a=7;p=&a;return 0;}int main(){f();return *p;}": 7,
		"int main(){int a[2];a[0]=3;a[1]=4;return *a*10+*(a+1);}": 34, "int main(){int a[3];int*p=a;*p++=1;*p++=2;*p=3;return a[0]*100+a[1]*10+a[2]+(p-a);}": 125, "int*p;int main(){*(int*)4095=6;p=(int*)4094;return p[1];}": 6, "int g=5;int h=6;int main(){return *(&g+1)*10+*(&h-1);}": 65,
	})
}
