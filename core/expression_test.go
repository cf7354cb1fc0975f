package core_test

import (
	"strings"
	"testing"

	"doppel/api"
)

// What the tests of expressions declare in main: the registers 0 to 6 are i, u, c, p, q, v and sp; the frame has the words 0 (fi), 1 (fc), 2 to 4 (a) and 5 to 8 (s).
const variables = "int i;unsigned u;char c;int*p;char*q;void*v;int fi;char fc;int a[3];struct t s;struct t*sp;&fi;&fc;"

// What is global is at the addresses 1 (gi), 2 (gu), 3 (gc), 4 (gp), 5 to 7 (ga) and 8 to 11 (gs).
const globals = "struct t{int x;char y[2];struct n*z;};int gi;unsigned gu;char gc;int*gp;int ga[3];struct t gs;int f(){return 0;}void g(int x,char y,int*z){}int*h(void*x){return 0;}unsigned w(){return 0;}char k(){return 0;}"

// alone is what becomes of an expression that is a statement.
func alone(t *testing.T, expression string) string {
	t.Helper()
	before := inside(t, globals, variables)
	text := strings.TrimPrefix(inside(t, globals, variables+expression+";"), before)
	if !strings.HasPrefix(text, " (do ") {
		t.Fatalf("%q: %s", expression, text)
	}
	return text[len(" (do ") : len(text)-1]
}

// expressions holds what becomes of expressions; each stands ahead of what it becomes.
func expressions(t *testing.T, l ...string) {
	t.Helper()
	for i := 0; i+1 < len(l); i += 2 {
		if got := alone(t, l[i]); got != l[i+1] {
			t.Errorf("%s: %s; wanted %s", l[i], got, l[i+1])
		}
	}
}

// refusedAll holds that expressions have an error, where their marks stand.
func refusedAll(t *testing.T, errno api.Errno, l ...string) {
	t.Helper()
	for _, expression := range l {
		refused(t, globals+"int main(){"+variables+expression+";return 0;}", errno)
	}
}

func TestNumbers(t *testing.T) {
	expressions(t, "7", "7", "0", "0", "0x1fU", "31", "'A'", "65", "'\\0'", "0", "2147483647", "2147483647", "2147483648", "-2147483648", "4294967295", "-1", "0xffffffff", "-1")
	// A number is an int if it is less than 2^31, whatever stands behind its digits.
	expressions(t,
		"2147483647u/i", "(div 2147483647 r0)", "1u/i", "(div 1 r0)", "'A'/i", "(div 65 r0)", "0x7fffffff/i", "(div 2147483647 r0)",
		"2147483648/i", "(divu -2147483648 r0)", "0x80000000/i", "(divu -2147483648 r0)", "4294967295/i", "(divu -1 r0)",
		"-2147483648/i", "(divu (neg -2147483648) r0)", "-1/i", "(div (neg 1) r0)")
}

func TestSizes(t *testing.T) {
	expressions(t,
		"sizeof(int)", "1", "sizeof(unsigned)", "1", "sizeof(char)", "1", "sizeof(void*)", "1", "sizeof(struct t)", "4", "sizeof(struct t*)", "1", "sizeof(struct n*)", "1",
		"sizeof(int[3])", "3", "sizeof(struct t[1000])", "4000", "sizeof(struct t*[2])", "2", "sizeof(char[1024])", "1024", "sizeof(struct t[1024])", "4096",
		"sizeof(int)-i<0", "(lt (sub 1 r0) 0)", "i+sizeof(struct t)", "(add r0 4)")
	refusedAll(t, api.ErrType, "i=@sizeof(void)", "@sizeof(struct n)", "@sizeof(void[3])", "@sizeof(struct n[3])", "p@=sizeof(int)")
	refusedAll(t, api.ErrLong, "@sizeof(int[0])", "i+@sizeof(int[1025])", "@sizeof(struct t[1025])", "@sizeof(int[4294967295])")
}

func TestNames(t *testing.T) {
	expressions(t,
		"i", "r0", "u", "r1", "c", "r2", "p", "r3", "q", "r4", "v", "r5", "sp", "r6", "fi", "(load f0)", "fc", "(load f1)", "a", "f2",
		"gi", "(load 1)", "gu", "(load 2)", "gc", "(load 3)", "gp", "(load 4)", "ga", "5")
	refusedAll(t, api.ErrName, "@x", "@f", "@t", "@main", "i=@x", "&@x", "@x=1", "@x++", "a[@x]", "@x[1]", "sp->x=@x", "@x.x", "@x->x", "i?@x:1", "putc(@x)", "g(@x,1,0)", "(int)@x", "!@x", "i&&@x", "i+=@x", "@n()", "@a()", "@gi()", "i+@fx()", "g(@f,1,0)")
	// Parts are told of from left to right, ahead of what they are parts of.
	refusedAll(t, api.ErrName, "@x+y", "p*@x", "@x+p*p", "g(@x,p,x)", "@x[y]", "@x=y", "@x?y:z", "i?@x:y", "p*(i+@x)", "@f1(x)", "(p)[@x]+p*p")
	refusedAll(t, api.ErrType, "(p@*p)+x", "p@*i+x", "!(p@*i)?x:y", "a[p@*1]=x", "@f(x)")
}

func TestSigns(t *testing.T) {
	expressions(t,
		"-i", "(neg r0)", "~i", "(not r0)", "!i", "(zero r0)", "-u", "(neg r1)", "-c", "(neg r2)", "!p", "(zero r3)", "!a", "(zero f2)", "!u", "(zero r1)", "!c", "(zero r2)", "- -i", "(neg (neg r0))", "!!gi", "(zero (zero (load 1)))",
		// The result is unsigned if the operand is.
		"-u/i", "(divu (neg r1) r0)", "~u/i", "(divu (not r1) r0)", "-c/i", "(div (neg r2) r0)", "~i/i", "(div (not r0) r0)", "!u/i", "(div (zero r1) r0)", "!p/i", "(div (zero r3) r0)")
	refusedAll(t, api.ErrType, "@-p", "@~p", "@-a", "@~v", "1+@-sp", "@~&fi", "!@s", "-@s", "!@g(1,2,0)")
}

func TestArithmetic(t *testing.T) {
	for sign, ops := range map[string][2]string{"+": {"add", "add"}, "-": {"sub", "sub"}, "*": {"mul", "mul"}, "/": {"div", "divu"}, "%": {"rem", "remu"}, "&": {"and", "and"}, "|": {"or", "or"}, "^": {"xor", "xor"}} {
		expressions(t,
			"i"+sign+"i", "("+ops[0]+" r0 r0)", "i"+sign+"c", "("+ops[0]+" r0 r2)", "c"+sign+"c", "("+ops[0]+" r2 r2)", "c"+sign+"1", "("+ops[0]+" r2 1)", "gc"+sign+"fi", "("+ops[0]+" (load 3) (load f0))",
			"u"+sign+"u", "("+ops[1]+" r1 r1)", "i"+sign+"u", "("+ops[1]+" r0 r1)", "u"+sign+"i", "("+ops[1]+" r1 r0)", "c"+sign+"gu", "("+ops[1]+" r2 (load 2))", "u"+sign+"c", "("+ops[1]+" r1 r2)",
			// What it yields is unsigned if one of the two is.
			"(u"+sign+"i)/i", "(divu ("+ops[1]+" r1 r0) r0)", "(c"+sign+"u)/c", "(divu ("+ops[1]+" r2 r1) r2)", "(c"+sign+"c)/c", "(div ("+ops[0]+" r2 r2) r2)", "i/(i"+sign+"i)", "(div r0 ("+ops[0]+" r0 r0))")
		if sign != "+" && sign != "-" {
			refusedAll(t, api.ErrType, "p@"+sign+"i", "i@"+sign+"p", "p@"+sign+"p", "a@"+sign+"1", "0@"+sign+"v")
		}
		refusedAll(t, api.ErrType, "@s"+sign+"i", "i"+sign+"@s", "i"+sign+"@g(1,1,0)", "@g(1,1,0)"+sign+"1", "i"+sign+" @*v")
	}
}

func TestShifts(t *testing.T) {
	expressions(t,
		"i<<i", "(shl r0 r0)", "u<<i", "(shl r1 r0)", "i>>i", "(shr r0 r0)", "i>>u", "(shr r0 r1)", "c>>u", "(shr r2 r1)", "u>>u", "(shru r1 r1)", "u>>c", "(shru r1 r2)", "u>>i", "(shru r1 r0)",
		// Only the left operand tells whether the result is unsigned.
		"(i<<u)/i", "(div (shl r0 r1) r0)", "(u<<i)/i", "(divu (shl r1 r0) r0)", "(i>>u)/i", "(div (shr r0 r1) r0)", "(u>>i)/i", "(divu (shru r1 r0) r0)", "(c<<u)/i", "(div (shl r2 r1) r0)")
	refusedAll(t, api.ErrType, "p@<<1", "1@<<p", "p@>>1", "1@>>p", "v@>>v")
}

func TestPointersAndNumbers(t *testing.T) {
	expressions(t,
		"p+i", "(add r3 r0)", "p-i", "(sub r3 r0)", "i+p", "(add r0 r3)", "q+c", "(add r4 r2)", "u+q", "(add r1 r4)", "v+1", "(add r5 1)", "v-i", "(sub r5 r0)", "1+v", "(add 1 r5)", "a+i", "(add f2 r0)", "ga-1", "(sub 5 1)", "p+0", "(add r3 0)", "0+p", "(add 0 r3)",
		"sp+i", "(add r6 (mul r0 4))", "sp-i", "(sub r6 (mul r0 4))", "i+sp", "(add (mul r0 4) r6)", "c+sp", "(add (mul r2 4) r6)", "&a+1", "(add f2 (mul 1 3))", "1+&ga", "(add (mul 1 3) 5)", "&gs+u", "(add 8 (mul r1 4))", "sp+0", "(add r6 (mul 0 4))",
		// A pointer to what has no size counts words.
		"gs.z+i", "(add (load (add 8 3)) r0)", "i+gs.z", "(add r0 (load (add 8 3)))", "gs.z-1", "(sub (load (add 8 3)) 1)",
		"p-p", "(sub r3 r3)", "v-v", "(sub r5 r5)", "a-p", "(sub f2 r3)", "sp-&gs", "(div (sub r6 8) 4)", "&a-&a", "(div (sub f2 f2) 3)", "gs.z-s.z", "(sub (load (add 8 3)) (load (add f5 3)))",
		// The difference is signed; the sum is the pointer.
		"(sp-sp)/i", "(div (div (sub r6 r6) 4) r0)", "(p-p)/i", "(div (sub r3 r3) r0)", "(i+sp)->y", "(add (add (mul r0 4) r6) 1)", "(p+1)-p", "(sub (add r3 1) r3)", "(1+p)-p", "(sub (add 1 r3) r3)", "(p-1)-p", "(sub (sub r3 1) r3)")
	refusedAll(t, api.ErrType, "i@-p", "0@-p", "1@-sp", "i@-a", "p@+p", "a@+p", "p@-q", "p@-v", "v@-p", "sp@-gs.z", "&a@-a", "a@-&a", "&p@-p")
}

func TestComparisons(t *testing.T) {
	for sign, ops := range map[string][2]string{"==": {"(eq ", "(eq "}, "!=": {"(ne ", "(ne "}, "<": {"(lt ", "(ltu "}, "<=": {"(le ", "(leu "}, ">": {"(zero (le ", "(zero (leu "}, ">=": {"(zero (lt ", "(zero (ltu "}} {
		end := strings.Repeat(")", strings.Count(ops[0], "("))
		of := func(n int, operands string) string { return ops[n] + operands + end }
		expressions(t,
			"i"+sign+"i", of(0, "r0 r0"), "i"+sign+"c", of(0, "r0 r2"), "c"+sign+"c", of(0, "r2 r2"), "gc"+sign+"'a'", of(0, "(load 3) 97"),
			"u"+sign+"i", of(1, "r1 r0"), "i"+sign+"u", of(1, "r0 r1"), "u"+sign+"u", of(1, "r1 r1"), "c"+sign+"u", of(1, "r2 r1"), "i"+sign+"2147483648", of(1, "r0 -2147483648"),
			"p"+sign+"p", of(1, "r3 r3"), "v"+sign+"v", of(1, "r5 r5"), "a"+sign+"p", of(1, "f2 r3"), "p"+sign+"&fi", of(1, "r3 f0"), "sp"+sign+"0", of(1, "r6 0"), "0"+sign+"q", of(1, "0 r4"), "v"+sign+"'\\0'", of(1, "r5 0"), "0u"+sign+"a", of(1, "0 f2"), "&a"+sign+"&ga", of(1, "f2 5"),
			// The left operand is evaluated first, whichever operation there is.
			"f()"+sign+"w()", of(1, "(call f) (call w)"), "(i=1)"+sign+"(i=2)", of(0, "(set 0 1) (set 0 2)"),
			// It yields an int.
			"(u"+sign+"u)/i", "(div "+of(1, "r1 r1")+" r0)", "(p"+sign+"p)/i", "(div "+of(1, "r3 r3")+" r0)")
		refusedAll(t, api.ErrType, "p@"+sign+"q", "p@"+sign+"v", "v@"+sign+"p", "p@"+sign+"1", "1@"+sign+"p", "p@"+sign+"i", "p@"+sign+"(0+0)", "p@"+sign+"-0", "(int)0@"+sign+"p", "p@"+sign+"!1", "a@"+sign+"&a", "p@"+sign+"&p", "sp@"+sign+"gs.z", "@s"+sign+"s", "0"+sign+"@s", "@g(1,1,0)"+sign+"0")
	}
}

func TestConditions(t *testing.T) {
	for _, sign := range []string{"&&", "||"} {
		expressions(t,
			"i"+sign+"u", "("+sign+" r0 r1)", "c"+sign+"p", "("+sign+" r2 r3)", "v"+sign+"a", "("+sign+" r5 f2)", "0"+sign+"gs.z", "("+sign+" 0 (load (add 8 3)))", "f()"+sign+"1", "("+sign+" (call f) 1)", "(i"+sign+"u)"+sign+"c", "("+sign+" ("+sign+" r0 r1) r2)",
			"(u"+sign+"u)/i", "(div ("+sign+" r1 r1) r0)", "(p"+sign+"p)/i", "(div ("+sign+" r3 r3) r0)")
		refusedAll(t, api.ErrType, "@s"+sign+"i", "i"+sign+"@s", "@g(1,1,0)"+sign+"1", "1"+sign+"@g(1,1,0)", "i"+sign+"@*v")
	}
	expressions(t,
		"i?1:2", "(cond r0 1 2)", "p?i:c", "(cond r3 r0 r2)", "a?1:2", "(cond f2 1 2)", "u?f():w()", "(cond r1 (call f) (call w))",
		// Both parts are numbers: the result is unsigned if one of them is.
		"(i?c:c)/i", "(div (cond r0 r2 r2) r0)", "(i?u:i)/i", "(divu (cond r0 r1 r0) r0)", "(i?i:u)/i", "(divu (cond r0 r0 r1) r0)", "(u?i:i)/i", "(div (cond r1 r0 r0) r0)", "(i?0:u)/i", "(divu (cond r0 0 r1) r0)",
		// They have the same type, or one is a pointer, and the other one the number 0.
		"(i?p:a)-p", "(sub (cond r0 r3 f2) r3)", "(i?0:sp)->y", "(add (cond r0 0 r6) 1)", "(i?sp:0)->y", "(add (cond r0 r6 0) 1)", "i?v:v", "(cond r0 r5 r5)", "(i?&gs:&s)->x", "(load (cond r0 8 f5))", "(i?&a:&ga)-&a", "(div (sub (cond r0 f2 5) f2) 3)",
		"p=i?0:0?p:0", "(set 3 (cond r0 0 (cond 0 r3 0)))")
	refusedAll(t, api.ErrType, "i@?p:q", "i@?p:v", "i@?v:p", "i@?p:1", "i@?1:p", "i@?i:p", "i@?p:-0", "i@?(int)0:p", "i?@s:s", "i?1:@s", "@s?1:2", "i?@g(1,1,0):1", "i?1:@g(1,1,0)", "@g(1,1,0)?1:2", "i@?a:&a", "p@=i?0:0")
}

func TestCasts(t *testing.T) {
	expressions(t,
		"(char)i", "(low r0)", "(char)c", "(low r2)", "(char)p", "(low r3)", "(char)300", "(low 300)", "(int)c", "r2", "(int)u", "r1", "(unsigned)i", "r0", "(int)p", "r3", "(int*)i", "r0", "(char*)p", "r3", "(void*)7", "7", "(struct n*)p", "r3", "(unsigned)a", "f2", "(int**)(char)u", "(low r1)",
		"(int)u/i", "(div r1 r0)", "(unsigned)i/i", "(divu r0 r0)", "(char)u/i", "(div (low r1) r0)", "(unsigned)c/c", "(divu r2 r2)", "i/(unsigned)(char)i", "(divu r0 (low r0))", "(char*)p-q", "(sub r3 r4)", "((struct t*)p)->y", "(add r3 1)", "((struct t*)1000)->x", "(load 1000)", "*(int*)0", "(load 0)", "(int*)q==p", "(eq r4 r3)", "(int)p-i", "(sub r3 r0)", "i-(int)p", "(sub r0 r3)")
	refusedAll(t, api.ErrType, "@(void)i", "@(struct t)i", "@(struct n)i", "@(void)g(1,2,0)", "(int)@s", "(int)@g(1,2,0)", "@(struct t)s", "(char)@*v")
}

func TestObjects(t *testing.T) {
	expressions(t,
		"*p", "(load r3)", "*a", "(load f2)", "*ga", "(load 5)", "*q", "(load r4)", "*(p+1)", "(load (add r3 1))", "**&gp", "(load (load 4))", "*&gi", "(load 1)", "*&fi", "(load f0)", "*&*p", "(load r3)",
		"p[2]", "(load (add r3 2))", "a[i]", "(load (add f2 r0))", "ga[1]", "(load (add 5 1))", "ga[0]", "(load (add 5 0))", "i[a]", "(load (add r0 f2))", "q[c]", "(load (add r4 r2))", "sp[i].x", "(load (add r6 (mul r0 4)))", "sp[1].y[i]", "(load (add (add (add r6 (mul 1 4)) 1) r0))", "(&a)[1][2]", "(load (add (add f2 (mul 1 3)) 2))", "(&gs)[u].z", "(load (add (add 8 (mul r1 4)) 3))",
		"s.x", "(load f5)", "s.y", "(add f5 1)", "s.y[1]", "(load (add (add f5 1) 1))", "*s.y", "(load (add f5 1))", "s.z", "(load (add f5 3))", "gs.x", "(load 8)", "gs.z", "(load (add 8 3))", "sp->x", "(load r6)", "sp->y", "(add r6 1)", "sp->z", "(load (add r6 3))", "(*sp).x", "(load r6)", "(&s)->z", "(load (add f5 3))", "(&gs)->x", "(load 8)",
		// An array is the address of its first element, except that & of its name is a pointer to the array.
		"a+1", "(add f2 1)", "&a", "f2", "&a+1", "(add f2 (mul 1 3))", "*&a", "f2", "**&a", "(load f2)", "*&a+1", "(add f2 1)", "*(&a+1)", "(add f2 (mul 1 3))", "&ga", "5", "a-*&a", "(sub f2 f2)",
		"&fi", "f0", "&gi", "1", "&s", "f5", "&gs", "8", "&gp", "4", "&a[1]", "(add f2 1)", "&p[i]", "(add r3 r0)", "&s.x", "f5", "&s.z", "(add f5 3)", "&sp->x", "r6", "&sp->z", "(add r6 3)", "&*p", "r3", "&*v", "r5", "&*sp", "r6", "&v[1]", "(add r5 1)", "&*gs.z", "(load (add 8 3))", "&s.y[1]", "(add (add f5 1) 1)", "&sp[1]", "(add r6 (mul 1 4))",
		"&gi-p", "(sub 1 r3)", "&gp-&gp", "(sub 4 4)", "&s-sp", "(div (sub f5 r6) 4)", "*&gp-p", "(sub (load 4) r3)", "&fc-q", "(sub f1 r4)", "&a[1]-a", "(sub (add f2 1) f2)", "&*v-v", "(sub r5 r5)")
	refusedAll(t, api.ErrType,
		"@*i", "@*1", "@*c", "1@[2]", "i@[c]", "p@[p]", "@s[1]", "*@s", "@*v", "v@[1]", "@*gs.z", "gs.z@[0]", "i@.x", "p@->x", "i@->x", "a@.x", "p@.x", "sp@.x", "@s->x", "v@->x", "(&sp)@->x", "a[1]@.x", "@f().x", "@1 .x", "@s", "@gs", "@*sp", "sp@[1]", "(@*sp)",
		"&@1", "&@f()", "&(i@+1)", "&@-i", "&(i@=1)", "& @&fi", "&(i@?i:i)", "&@getc()", "&@sizeof(int)", "&@(int)i", "&@++i", "&@!p", "&(p@+1)", "&(p@=p)", "@&s.y", "@&sp->y", "@&*&a", "@&(&a)[1]")
	refusedAll(t, api.ErrName, "s@.w", "sp@->w", "gs@.t", "s@.X", "gs.z@->x", "(*gs.z)@.x", "s.y[0]=s@.w")
}

func TestAssignments(t *testing.T) {
	expressions(t,
		"i=7", "(set 0 7)", "i=u", "(set 0 r1)", "u=i", "(set 1 r0)", "i=c", "(set 0 r2)", "c=i", "(set 2 (low r0))", "c=c", "(set 2 (low r2))", "c=300", "(set 2 (low 300))", "fi=7", "(store f0 7)", "fc=i", "(store f1 (low r0))", "gi=i", "(store 1 r0)", "gc=gi", "(store 3 (low (load 1)))", "*p=i", "(store r3 r0)", "*q=i", "(store r4 (low r0))", "a[i]=u", "(store (add f2 r0) r1)", "s.x=1", "(store f5 1)", "s.y[0]=1", "(store (add (add f5 1) 0) (low 1))", "sp->z=0", "(store (add r6 3) 0)", "*&gi=2", "(store 1 2)",
		"p=0", "(set 3 0)", "p='\\0'", "(set 3 0)", "p=0u", "(set 3 0)", "p=a", "(set 3 f2)", "p=p", "(set 3 r3)", "p=v", "(set 3 r5)", "v=p", "(set 5 r3)", "v=&a", "(set 5 f2)", "q=v", "(set 4 r5)", "v=q", "(set 5 r4)", "gs.z=v", "(store (add 8 3) r5)", "v=gs.z", "(set 5 (load (add 8 3)))", "p=&fi", "(set 3 f0)", "q=(char*)p", "(set 4 r3)", "gp=h(0)", "(store 4 (call h 0))", "sp=&s", "(set 6 f5)", "i=(int)p", "(set 0 r3)", "i=p-p", "(set 0 (sub r3 r3))", "c=getc()", "(set 2 (low (getc)))",
		// The value is what was stored, and has the type of what is on the left.
		"i=c=300", "(set 0 (set 2 (low 300)))", "(u=i)/i", "(divu (set 1 r0) r0)", "(i=u)/i", "(div (set 0 r1) r0)", "(c=u)/i", "(div (set 2 (low r1)) r0)", "(sp=0)->y", "(add (set 6 0) 1)", "gi=gu=i", "(store 1 (store 2 r0))", "a[gi=1]=gi", "(store (add f2 (store 1 1)) (load 1))", "(p=0)==0", "(eq (set 3 0) 0)")
	refusedAll(t, api.ErrType,
		"p@=1", "p@=i", "p@=-0", "p@=1-1", "p@=(int)0", "p@=c", "i@=p", "u@=p", "c@=a", "i@=&fi", "p@=q", "q@=p", "p@=&a", "p@=&p", "v@=1", "sp@=p", "gs.z@=sp", "p@=i?0:0", "p@=(i=0)", "q@=h(0)", "i@=h(0)", "p@=f()", "i=@s", "i=@g(1,1,0)", "p=@*v",
		"@1=2", "@f()=1", "i@+1=2", "@-i=1", "@a=0", "@a=p", "@s=s", "@gs=s", "@*sp=s", "s@.y=0", "@*v=1", "v@[0]=1", "@&fi=0", "@h(0)=0", "(i@=1)=2", "(i@?i:i)=2", "@(int)i=2", "@++i=2", "i@++=2", "@*&a=p", "@getc()=1", "@sizeof(int)=1", "@!i=1", "@-i=1", "@~i=1", "@!p=1", "p@*i=1", "p@+i=p", "@&fi=p")
}

// TestChanges holds op=, ++ and --: what is on the left is computed once, before everything else.
func TestChanges(t *testing.T) {
	for sign, ops := range map[string][2]string{"+": {"add", "add"}, "-": {"sub", "sub"}, "*": {"mul", "mul"}, "/": {"div", "divu"}, "%": {"rem", "remu"}, "&": {"and", "and"}, "|": {"or", "or"}, "^": {"xor", "xor"}, "<<": {"shl", "shl"}, ">>": {"shr", "shru"}} {
		expressions(t,
			"i"+sign+"=7", "(set 0 ("+ops[0]+" r0 7))", "u"+sign+"=7", "(set 1 ("+ops[1]+" r1 7))", "c"+sign+"=i", "(set 2 (low ("+ops[0]+" r2 r0)))",
			"gi"+sign+"=i", "(then (set 7 1) (store r7 ("+ops[0]+" (load r7) r0)))", "a[f()]"+sign+"=f()", "(then (set 7 (add f2 (call f))) (store r7 ("+ops[0]+" (load r7) (call f))))", "*q"+sign+"=1", "(then (set 7 r4) (store r7 (low ("+ops[0]+" (load r7) 1))))",
			"(u"+sign+"=1)/i", "(divu (set 1 ("+ops[1]+" r1 1)) r0)", "i"+sign+"=i"+sign+"=c", "(set 0 ("+ops[0]+" r0 (set 0 ("+ops[0]+" r0 r2))))")
		refusedAll(t, api.ErrType, "i@"+sign+"=p", "@a"+sign+"=1", "@s"+sign+"=1", "@1"+sign+"=1", "i"+sign+"=@s", "i"+sign+"=@g(1,1,0)", "@f()"+sign+"=1", "p@"+sign+"=p", "@*v"+sign+"=1", "p@"+sign+"=v")
		if sign != "+" && sign != "-" {
			refusedAll(t, api.ErrType, "p@"+sign+"=1", "p@"+sign+"=0", "p@"+sign+"=i")
		}
	}
	expressions(t,
		"i>>=u", "(set 0 (shr r0 r1))", "u>>=i", "(set 1 (shru r1 r0))", "i/=u", "(set 0 (divu r0 r1))", "i+=u", "(set 0 (add r0 r1))", "c/=u", "(set 2 (low (divu r2 r1)))",
		"p+=1", "(set 3 (add r3 1))", "sp+=i", "(set 6 (add r6 (mul r0 4)))", "sp-=2", "(set 6 (sub r6 (mul 2 4)))", "v+=1", "(set 5 (add r5 1))", "gp+=c", "(then (set 7 4) (store r7 (add (load r7) r2)))", "(sp+=1)->y", "(add (set 6 (add r6 (mul 1 4))) 1)", "i-=p-a", "(set 0 (sub r0 (sub r3 f2)))",
		"fi+=1", "(then (set 7 f0) (store r7 (add (load r7) 1)))", "s.x-=1", "(then (set 7 f5) (store r7 (sub (load r7) 1)))", "sp->y[i]|=1", "(then (set 7 (add (add r6 1) r0)) (store r7 (low (or (load r7) 1))))", "gi+=gi+=1", "(then (set 7 1) (store r7 (add (load r7) (then (set 8 1) (store r8 (add (load r8) 1))))))",
		"++i", "(set 0 (add r0 1))", "--u", "(set 1 (sub r1 1))", "++c", "(set 2 (low (add r2 1)))", "++p", "(set 3 (add r3 1))", "--sp", "(set 6 (sub r6 (mul 1 4)))", "++gi", "(then (set 7 1) (store r7 (add (load r7) 1)))", "--*q", "(then (set 7 r4) (store r7 (low (sub (load r7) 1))))", "++a[f()]", "(then (set 7 (add f2 (call f))) (store r7 (add (load r7) 1)))", "(++u)/i", "(divu (set 1 (add r1 1)) r0)", "++v", "(set 5 (add r5 1))",
		"i++", "(then (set 7 r0) (then (set 0 (add r7 1)) r7))", "u--", "(then (set 7 r1) (then (set 1 (sub r7 1)) r7))", "c++", "(then (set 7 r2) (then (set 2 (low (add r7 1))) r7))", "p--", "(then (set 7 r3) (then (set 3 (sub r7 1)) r7))", "sp++", "(then (set 7 r6) (then (set 6 (add r7 (mul 1 4))) r7))", "u++/i", "(divu (then (set 7 r1) (then (set 1 (add r7 1)) r7)) r0)", "c++/i", "(div (then (set 7 r2) (then (set 2 (low (add r7 1))) r7)) r0)", "sp++->y", "(add (then (set 7 r6) (then (set 6 (add r7 (mul 1 4))) r7)) 1)",
		"gi++", "(then (set 7 1) (then (set 8 (load r7)) (then (store r7 (add r8 1)) r8)))", "a[f()]--", "(then (set 7 (add f2 (call f))) (then (set 8 (load r7)) (then (store r7 (sub r8 1)) r8)))", "*q++", "(load (then (set 7 r4) (then (set 4 (add r7 1)) r7)))", "(*q)++", "(then (set 7 r4) (then (set 8 (load r7)) (then (store r7 (low (add r8 1))) r8)))", "sp->z++", "(then (set 7 (add r6 3)) (then (set 8 (load r7)) (then (store r7 (add r8 1)) r8)))")
	refusedAll(t, api.ErrType, "++@1", "@1++", "--@f()", "@f()--", "++@a", "@a++", "++@s", "@s--", "++@*v", "++@-i", "++i@++", "++@&fi", "i@++ ++", "++@(int)i", "++(i@=1)", "(i@=1)++", "v@[0]++", "++@gs", "--s@.y", "p@-=p", "i@+=p", "i@-=p")
}

func TestCalls(t *testing.T) {
	expressions(t,
		"f()", "(call f)", "w()/i", "(divu (call w) r0)", "f()/i", "(div (call f) r0)", "k()/i", "(div (call k) r0)", "h(p)-p", "(sub (call h r3) r3)", "*h(0)", "(load (call h 0))", "h(0)[1]", "(load (add (call h 0) 1))",
		"g(1,2,0)", "(call g 1 (low 2) 0)", "g(u,i,a)", "(call g r1 (low r0) f2)", "g(c,c,v)", "(call g r2 (low r2) r5)", "h(v)", "(call h r5)", "h(sp)", "(call h r6)", "h(&a)", "(call h f2)", "g(f(),f(),h(h(0)))", "(call g (call f) (low (call f)) (call h (call h 0)))", "g(i=1,i=2,0)", "(call g (set 0 1) (low (set 0 2)) 0)", "main()", "(call main)",
		"getc()", "(getc)", "getc()/i", "(div (getc) r0)", "putc(i)", "(putc r0)", "putc(u)/i", "(div (putc r1) r0)", "putc(c)", "(putc r2)", "putc(putc(65))", "(putc (putc 65))")
	refusedAll(t, api.ErrType,
		"@f(1)", "@g()", "@g(1)", "@g(1,2)", "@g(1,2,0,0)", "@h()", "@h(0,0)", "@main(1)", "@g(p,2,0)", "@g(1,p,0)", "@g(1,2,1)", "@g(1,2,q)", "@g(1,2,i)", "@h(1)", "@h(-0)", "g(@s,2,0)", "h(@s)", "g(1,@g(1,2,0),0)", "h(@g(1,2,0))", "g(1,@f(1),0)",
		"@putc(p)", "@putc(a)", "putc(@s)", "putc(@g(1,2,0))", "@putc(v)", "putc(@putc(p))")
	// Calls may stand ahead of the declaration.
	whole(t, "int main(){return a(1)+b();}char b(){return 2;}int a(char x){return x;}", "1", "main 0 0 0 (block (block (give (add (call a (low 1)) (call b)))))", "b 0 0 0 (block (block (give (low 2))))", "a 1 1 0 (block (block (give r0)))")
}

// TestNothing holds where calls of functions that return void may stand.
func TestNothing(t *testing.T) {
	if got := inside(t, "void g(){}", "g();if(1)g();else g();while(1)g();do g();while(1);for(g();;g())g();x:g();switch(1){case 1:g();default:g();}{g();}"); got != "(do (call g)) (if 1 (do (call g)) (do (call g))) (while 1 (do (call g))) (dowhile 1 (do (call g))) (for (call g) - (call g) (do (call g))) (label x (do (call g))) (switch 1 (block (case 1 (do (call g))) (default (do (call g))))) (block (do (call g)))" {
		t.Error(got)
	}
	for _, statement := range []string{"if(@g());", "while(@g());", "do;while(@g());", "for(;@g(););", "switch(@g()){}", "return @g();", "int i=@g();", "-@g();", "@g()+1;", "1?1:@g();", "!@g();", "putc(@g());", "(int)@g();", "*@g();", "@g()[1];", "@g().x;", "@g()->x;", "for(-@g();;);", "for(;;-@g());", "for(1?@g():1;;);"} {
		refused(t, "void g(){}int main(){"+statement+"}", api.ErrType)
	}
	refused(t, "void g(){}void h(){return @g();}int main(){}", api.ErrType)
	refused(t, "void g(){@return 1;}int main(){}", api.ErrType)
	refused(t, "void g(){@return 0;}int main(){}", api.ErrType)
	refused(t, "void g(){int*p;@return p;}int main(){}", api.ErrType)
	whole(t, "void g(){return;}int main(){}", "1", "g 0 0 0 (block (block (give -)))", "main 0 0 0 (block (block))")
}
