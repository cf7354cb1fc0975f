package eval_test

import (
	"strconv"
	"strings"
	"testing"

	"doppel/api"
	"doppel/core"
	"doppel/eval"
)

// edges are words at both ends of the numbers with and without a sign, and in between.
func edges() []int64 {
	return []int64{-1 << 31, -1<<31 + 1, -1 << 16, -257, -33, -32, -31, -8, -2, -1, 0, 1, 2, 7, 31, 32, 33, 63, 255, 256, 1 << 16, 1<<30 + 1, 1<<31 - 2, 1<<31 - 1}
}

// literal is a word as an expression of a type.
func literal(n int64, of string) string {
	return "(" + of + ")0x" + strconv.FormatUint(uint64(uint32(n)), 16)
}

func truth(is bool) int64 {
	if is {
		return 1
	}
	return 0
}

// binary is the result of an operator on two ints, or two unsigned numbers, and whether there is one.
func binary(sign string, a, b int64) (int64, bool) {
	shift := uint32(b) & 31
	switch sign {
	case "+":
		return a + b, true
	case "-":
		return a - b, true
	case "*":
		return a * b, true
	case "/", "%":
		if b == 0 {
			return 0, false
		}
		if sign == "/" {
			return a / b, true
		}
		return a % b, true
	case "&":
		return a & b, true
	case "|":
		return a | b, true
	case "^":
		return a ^ b, true
	case "<<":
		return a << shift, true
	case ">>":
		return a >> shift, true
	}
	compared := map[string]int64{"==": truth(a == b), "!=": truth(a != b), "<": truth(a < b), "<=": truth(a <= b), ">": truth(a > b), ">=": truth(a >= b)}
	return compared[sign], true
}

// TestBinary has each operator on two numbers, with and without a sign. A division by 0 is a trap.
func TestBinary(t *testing.T) {
	for _, sign := range strings.Fields("+ - * / % & | ^ << >> == != < <= > >=") {
		for _, a := range edges() {
			for _, b := range edges() {
				source := "int main(){return (int)(" + literal(a, "int") + sign + literal(b, "int") + ");}"
				operation(t, source, sign, a, b)
				source = "int main(){return (int)(" + literal(a, "unsigned") + sign + literal(b, "unsigned") + ");}"
				operation(t, source, sign, int64(uint32(a)), int64(uint32(b)))
			}
		}
	}
}

func operation(t *testing.T, source, sign string, a, b int64) {
	t.Helper()
	n, is := binary(sign, a, b)
	r := exit(int(int32(n)))
	if !is {
		r = result(api.Trap, 2, "")
	}
	comes(t, source, "", r)
}

// TestUnary has each operation on one number.
func TestUnary(t *testing.T) {
	for _, n := range edges() {
		for prefix, value := range map[string]int64{"-": -n, "~": ^n, "!": truth(n == 0), "!!": truth(n != 0), "(char)": n & 255, "(int)": n, "(int)(unsigned)": n, "- -": n} {
			comes(t, "int main(){return "+prefix+literal(n, "int")+";}", "", exit(int(int32(value))))
			comes(t, "int main(){return (int)("+prefix+literal(n, "unsigned")+");}", "", exit(int(int32(value))))
		}
	}
}

// TestOperations has each operation of the core language by its number.
func TestOperations(t *testing.T) {
	for op, n := range map[api.Op]int{api.Add: 2, api.Sub: -12, api.Mul: -35, api.Div: 0, api.Rem: -5, api.DivU: 613566755, api.RemU: 6, api.And: 3, api.Or: -1, api.Xor: -4, api.Shl: -640, api.Shr: -1, api.ShrU: 33554431, api.Eq: 0, api.Ne: 1, api.Lt: 1, api.Le: 1, api.LtU: 0, api.LeU: 0} {
		p := returns(node(core.Num, -5), node(core.Num, 7), node(core.Two, int(op), 0, 1))
		want(t, "operation "+number(int(op)), eval.Run(p, nil, plenty), exit(n))
	}
	for op, n := range map[api.Op]int{api.Neg: 261, api.Not: 260, api.Low: 251, api.Zero: 0} {
		p := returns(node(core.Num, -261), node(core.One, int(op), 0))
		want(t, "operation "+number(int(op)), eval.Run(p, nil, plenty), exit(n))
	}
	for _, op := range []api.Op{api.Div, api.Rem, api.DivU, api.RemU} {
		p := returns(node(core.Num, -5), node(core.Num, 0), node(core.Two, int(op), 0, 1))
		want(t, "operation "+number(int(op)), eval.Run(p, nil, plenty), result(api.Trap, 2, ""))
	}
}

// TestDivisionsByZero holds that these are traps where they are evaluated, and only there, with what went out until then.
func TestDivisionsByZero(t *testing.T) {
	for source, r := range map[string]api.Result{
		"return 1/0;": result(api.Trap, 2, ""), "return 1%0;": result(api.Trap, 2, ""), "unsigned u=5;return u/0;": result(api.Trap, 2, ""), "unsigned u=5;return u%0;": result(api.Trap, 2, ""), "return 0/0;": result(api.Trap, 2, ""),
		"int n=5;n/=0;return 1;": result(api.Trap, 2, ""), "int n=5;n%=n-5;return 1;": result(api.Trap, 2, ""), "return 1/(char)256;": result(api.Trap, 2, ""), "putc(1/0);": result(api.Trap, 2, ""),
		"return putc(65)/(putc(66)-66)+putc(67);": result(api.Trap, 2, "AB"), "return putc(65)%(putc(66)-66)+putc(67);": result(api.Trap, 2, "AB"),
		"return 0&&1/0;": exit(0), "return 1||1/0;": exit(1), "return 1?5:1/0;": exit(5), "return 0?1/0:6;": exit(6), "if(0)1/0;while(0)1/0;for(;0;1/0);return 7;": exit(7), "int i=0;return 7;i=1/0;": exit(7), "sizeof(int);return 0/5;": exit(0),
		"while(1/0);": result(api.Trap, 2, ""), "switch(1/0){}": result(api.Trap, 2, ""), "for(1/0;;);": result(api.Trap, 2, ""), "for(;1/0;);": result(api.Trap, 2, ""), "for(;;1/0)putc(65);": result(api.Trap, 2, "A"), "do putc(65);while(1/0);": result(api.Trap, 2, "A"),
		"return (int)0x80000000/-1;": exit(-1 << 31), "return (int)0x80000000%-1;": exit(0),
	} {
		comes(t, "int main(){"+source+"}", "", r)
	}
	comes(t, "int f(int n){putc(65);return 1/n;}int main(){f(1);f(2);f(0);f(3);}", "", result(api.Trap, 2, "AAA"))
}

// TestOrder holds in which order parts are evaluated: each puts out a byte.
func TestOrder(t *testing.T) {
	const functions = "int a[100];int g;int*at(int n){putc(n);return a;}int f(int x,int y,int z){putc(33);return x;}int n(int c){putc(c);return c;}int zero(int c){putc(c);return 0;}"
	for statements, output := range map[string]string{
		"n(65)+n(66)*n(67);": "ABC", "n(65)*n(66)+n(67);": "ABC", "n(65)<n(66)==n(67);": "ABC", "n(65)>n(66);": "AB", "n(65)>=n(66);": "AB", "n(65)-n(66)-n(67);": "ABC", "n(65)+(n(66)-n(67));": "ABC", "-n(65)+ ~n(66);": "AB",
		"at(65)[n(66)]=n(67);": "ABC", "at(65)[n(66)];": "AB", "*at(65)=n(66);": "AB", "*(at(65)+n(66))=*at(67);": "ABC", "at(65)[n(66)]=at(67)[n(68)]=n(69);": "ABCDE", "at(65)[0]+=n(66);": "AB", "at(65)[0]++;": "A", "--at(65)[0];": "A", "g=n(65)+(g=n(66));": "AB",
		"f(n(65),n(66),n(67));": "ABC!", "f(n(65),f(n(66),1,n(67)),n(68));": "ABC!D!", "putc(n(65));": "AA", "putc(putc(65)+1);": "AB",
		"n(65)&&n(66);": "AB", "zero(65)&&n(66);": "A", "n(65)||n(66);": "A", "zero(65)||n(66);": "AB", "zero(65)&&n(66)||n(67);": "AC", "n(65)&&zero(66)&&n(67)||n(68);": "ABD", "(zero(65)||n(66))&&n(67);": "ABC", "zero(65)||zero(66);n(67);": "ABC",
		"n(65)?n(66):n(67);": "AB", "zero(65)?n(66):n(67);": "AC", "n(65)?zero(66)?n(67):n(68):n(69);": "ABD", "zero(65)?n(66):zero(67)?n(68):n(69);": "ACE",
		"if(n(65))n(66);else n(67);": "AB", "if(zero(65))n(66);else n(67);": "AC", "int i=n(65);int j=n(66)+i;": "AB", "switch(n(65)){case 65:n(66);}": "AB",
		"g=1;int i=g+(g=5);n(60+i);": "B", "g=1;int i=(g=5)+g;n(60+i);": "F", "int i=1;i=i+(i=5);n(60+i);": "B", "int i=1;i=(i=5)+i;n(60+i);": "F", "int i=1;i+=i=5;n(60+i);": "B", "int i=1;i=i+i++*10;n(60+i);": "G",
		"a[1]=2;a[a[1]]=a[1]=3;n(60+a[2]+a[1]);": "B", "int i=1;a[i]=i=2;n(60+a[1]);": ">",
	} {
		comes(t, functions+"int main(){"+statements+"}", "", result(api.Exit, 0, output))
	}
}

// TestValues has what an expression yields.
func TestValues(t *testing.T) {
	gives(t, map[string]int{
		"int main(){int a;return a=5;}": 5, "int g;int main(){return g=6;}": 6, "int main(){char c;return c=300;}": 44, "char c;int main(){return c=-1;}": 255, "int main(){int a=5;return a++*10+a;}": 56, "int main(){int a=5;return ++a*10+a;}": 66, "int main(){int a=5;return a--*10+a;}": 54, "int main(){int a=5;return (a+=3)*10+a;}": 88,
		"int main(){return 5&&6;}": 1, "int main(){return 5||0;}": 1, "int main(){return 0||-7;}": 1, "int main(){return 0||0;}": 0, "int main(){return 3&&0;}": 0, "int main(){return 0&&3;}": 0, "int main(){return 256&&-1;}": 1, "int main(){return (5&&6)+(7||8);}": 2, "int main(){int*p=0;return p||!p;}": 1, "int g;int main(){return &g&&1;}": 1,
		"int main(){return -1?-2:-3;}": -2, "int main(){return 0?-2:-3;}": -3, "int main(){return getc();}": -1, "int main(){return 1+2*3;}": 7, "int main(){return sizeof(int[3])+sizeof(int*);}": 4,
		"int f(){return 5;}int main(){return f()*f();}": 25, "char f(int n){return n;}int main(){return f(511);}": 255, "int f(char c){return c;}int main(){return f(-1);}": 255, "int main(){int a;{int a=5;a;}return a;}": 0,
	})
}
