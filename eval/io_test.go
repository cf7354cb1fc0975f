package eval_test

import (
	"bytes"
	"slices"
	"testing"

	"doppel/api"
	"doppel/eval"
)

// all is each byte, once.
func all() []byte {
	l := make([]byte, 256)
	for n := range l {
		l[n] = byte(n)
	}
	return l
}

// TestInput has getc of each byte, at the end of the input, and behind it.
func TestInput(t *testing.T) {
	p := read(t, "int main(){int n=getc();if(n<0)return 7;return n*1000+getc();}")
	for _, b := range all() {
		want(t, number(int(b)), eval.Run(p, []byte{b}, plenty), exit(int(b)*1000-1))
		want(t, number(int(b)), eval.Run(p, []byte{b, 255 - b}, plenty), exit(int(b)*1000+255-int(b)))
		want(t, number(int(b)), eval.Run(p, []byte{b, 255 - b, 9}, plenty), exit(int(b)*1000+255-int(b)))
	}
	want(t, "no input", eval.Run(p, nil, plenty), exit(7))
	want(t, "no input", eval.Run(p, []byte{}, plenty), exit(7))
	comes(t, "int main(){int n=0;while(getc()>=0)n++;return n*100+getc()+getc()+getc();}", "abcd", exit(397))
	comes(t, "int main(){char c;while((c=getc())!=255)putc(c+1);return c;}", "HAL", result(api.Exit, 255, "IBM"))
	comes(t, "int next(){return getc();}int main(){putc(next());next();putc(getc());return next();}", "abc", result(api.Exit, -1, "ac"))
}

// TestOutput has putc of each byte, and of words beyond a byte.
func TestOutput(t *testing.T) {
	comes(t, "int main(){int i;for(i=0;i<256;i++)if(putc(i)!=i)return 1;return 0;}", "", result(api.Exit, 0, string(all())))
	comes(t, "int main(){int c;while((c=getc())>=0)putc(c);return 0;}", string(all()), result(api.Exit, 0, string(all())))
	for word, b := range map[string]int{"0": 0, "255": 255, "256": 0, "257": 1, "321": 65, "-1": 255, "-256": 0, "-191": 65, "2147483647": 255, "2147483648": 0, "4294967295": 255, "0x80000041": 65, "0xffffff00": 0, "(char)321": 65} {
		comes(t, "int main(){return putc("+word+");}", "", result(api.Exit, b, string([]byte{byte(b)})))
	}
}

// TestEnds has runs that end in each way, each with its code and the output until then.
func TestEnds(t *testing.T) {
	for source, r := range map[string]api.Result{
		"int main(){putc(65);return 7;}": result(api.Exit, 7, "A"), "int main(){putc(65);}": result(api.Exit, 0, "A"), "int main(){return 1+2*3;}": exit(7),
		"int main(){return 1/0;}": result(api.Trap, 2, ""), "int main(){putc(65);return 1/0;putc(66);}": result(api.Trap, 2, "A"), "int f(){putc(66);return *(int*)0;}int main(){putc(65);f();putc(67);}": result(api.Trap, 1, "AB"), "int main(){return *(int*)0;}": result(api.Trap, 1, ""), "int main(){putc(65);*(int*)0=putc(66);putc(67);}": result(api.Trap, 1, "AB"),
		"int f(){int a[100];putc(65);return f();}int main(){putc(66);return f();}": result(api.Full, 0, "B"+string(bytes.Repeat([]byte("A"), 40))), "int f(){int a[4];f();}int main(){f();}": result(api.Full, 0, ""),
		"int main(){for(;;);}": result(api.Spent, 0, ""), "int main(){putc(65);for(;;);}": result(api.Spent, 0, "A"), "int main(){while(1);}": result(api.Spent, 0, ""), "int main(){do;while(1);}": result(api.Spent, 0, ""), "int main(){putc(65);x:goto x;}": result(api.Spent, 0, "A"), "int main(){for(;;)switch(1){case 1:continue;}}": result(api.Spent, 0, ""),
	} {
		comes(t, source, "", r)
	}
}

// TestDeepCalls holds that calls may be nested as deep as the fuel allows, whatever registers they have.
func TestDeepCalls(t *testing.T) {
	registers := ""
	for n := range 1000 {
		registers += "int r" + number(n) + ";"
	}
	for _, source := range []string{
		"int f(){return f();}int main(){return f();}", "void f(){f();}int main(){f();}", "int main(){return main();}", "int f(int n){return f(n+1)+1;}int main(){return f(0);}", "int f(int a,int b,int c,int d,int e,int g){return f(b,c,d,e,g,a);}int main(){return f(1,2,3,4,5,6);}", "int f(){while(1)if(1)switch(1){default:f();}}int main(){f();}", "int f(){goto x;{" + registers + "x:f();r999=1;}}int main(){f();}",
	} {
		want(t, source[:20], behaves(t, source, "", plenty), result(api.Spent, 0, ""))
	}
	gives(t, map[string]int{"int f(int n){if(n)return f(n-1)+1;return 0;}int main(){return f(60000);}": 60000})
}

// TestNothingShared holds that arguments are neither changed nor kept, and that results share no memory.
func TestNothingShared(t *testing.T) {
	p := read(t, "int g=5;int main(){int c;g=g+1;while((c=getc())>=0)putc(c);return g;}")
	q := read(t, "int g=5;int main(){int c;g=g+1;while((c=getc())>=0)putc(c);return g;}")
	spare := []byte("abcdefgh")
	input := spare[2:4]
	first := eval.Run(p, input, plenty)
	second := eval.Run(p, input, plenty)
	third := eval.Run(p, input, plenty)
	if string(spare) != "abcdefgh" {
		t.Errorf("the input was changed: %q", spare)
	}
	for i := range spare {
		spare[i] = 'x'
	}
	for _, l := range [][]byte{first.Output[:cap(first.Output)], third.Output[:cap(third.Output)]} {
		for i := range l {
			l[i] = 'y'
		}
	}
	want(t, "the second of three runs", second, result(api.Exit, 6, "cd"))
	if !slices.Equal(p.Nodes, q.Nodes) || !slices.Equal(p.Funcs, q.Funcs) || !slices.Equal(p.Globals, q.Globals) || p.Top != q.Top {
		t.Error("the program was changed")
	}
	want(t, "a later run", eval.Run(p, []byte("ef"), plenty), result(api.Exit, 6, "ef"))
	source := "int main(){return putc(getc());}"
	input = []byte("a")
	r, _ := eval.Behaves(source, input, plenty)
	input[0] = 'b'
	want(t, source, r, result(api.Exit, 97, "a"))
}
