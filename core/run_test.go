package core_test

import (
	"testing"

	"doppel/api"
	"doppel/core"
	"doppel/tree"
	"doppel/word"
)

// How a statement ends.
const (
	onward = iota
	broken
	again
	given
)

// machine runs a program by what the chapter says of its expressions and statements, but for gotos and switches.
type machine struct {
	t       *testing.T
	program core.Program
	memory  [4096]int
	next    int // the next frame
	input   []byte
	output  []byte
}

// call is a function that is running.
type call struct {
	registers []int
	frame     int
	gives     int
}

// run runs main, and is what it returns.
func run(t *testing.T, p core.Program, input string) (*machine, int) {
	t.Helper()
	m := &machine{t: t, program: p, next: p.Top, input: []byte(input)}
	for _, g := range p.Globals {
		m.memory[g.At] = g.Init
	}
	return m, m.function("main", nil)
}

func (m *machine) function(name string, arguments []int) int {
	f := m.program.Funcs[core.Find(m.program, name)]
	c := &call{registers: make([]int, f.Regs), frame: m.next}
	copy(c.registers, arguments)
	m.next += f.Frame
	m.statement(c, f.Body)
	m.next -= f.Frame
	return c.gives
}

func (m *machine) value(c *call, n int) int {
	x := m.program.Nodes[n]
	value := func(n int) int { return m.value(c, n) }
	switch x.Kind {
	case core.Num:
		return x.N
	case core.Reg:
		return c.registers[x.N]
	case core.Frame:
		return c.frame + x.N
	case core.Load:
		return m.memory[value(x.A)]
	case core.Store:
		at := value(x.A)
		m.memory[at] = value(x.B)
		return m.memory[at]
	case core.Set:
		n := value(x.A)
		c.registers[x.N] = n
		return n
	case core.One, core.Two:
		return m.operation(c, x)
	case core.Cond:
		if value(x.A) != 0 {
			return value(x.B)
		}
		return value(x.C)
	case core.And:
		return truth(value(x.A) != 0 && value(x.B) != 0)
	case core.Or:
		return truth(value(x.A) != 0 || value(x.B) != 0)
	case core.Call:
		var l []int
		for _, n := range core.List(m.program, x.A) {
			l = append(l, value(n))
		}
		return m.function(x.Text, l)
	case core.In:
		return m.get()
	case core.Out:
		n := value(x.A) & 255
		m.output = append(m.output, byte(n))
		return n
	case core.Then:
		value(x.A)
		return value(x.B)
	}
	m.t.Fatal("an expression of the kind", x.Kind)
	return 0
}

func (m *machine) get() int {
	if len(m.input) == 0 {
		return -1
	}
	n := int(m.input[0])
	m.input = m.input[1:]
	return n
}

func (m *machine) operation(c *call, x api.Node) int {
	a, b := m.value(c, x.A), 0
	if x.Kind == core.Two {
		b = m.value(c, x.B)
	}
	n, is := word.Do(api.Op(x.N), a, b)
	if !is {
		m.t.Fatal("no result of", word.Name(api.Op(x.N)), a, b)
	}
	return n
}

func truth(is bool) int {
	if is {
		return 1
	}
	return 0
}

func (m *machine) statement(c *call, n int) int {
	x := m.program.Nodes[n]
	switch x.Kind {
	case tree.Do:
		m.value(c, x.A)
	case tree.If:
		if m.value(c, x.A) != 0 {
			return m.statement(c, x.B)
		}
		if x.C != -1 {
			return m.statement(c, x.C)
		}
	case tree.While, tree.DoWhile, tree.For:
		return m.loop(c, x)
	case tree.Break:
		return broken
	case tree.Continue:
		return again
	case tree.Give:
		c.gives = 0
		if x.A != -1 {
			c.gives = m.value(c, x.A)
		}
		return given
	case tree.Block:
		for _, n := range core.List(m.program, x.A) {
			if end := m.statement(c, n); end != onward {
				return end
			}
		}
	case tree.Label:
		return m.statement(c, x.A)
	case tree.Empty:
	default:
		m.t.Fatal("a statement of the kind", x.Kind)
	}
	return onward
}

func (m *machine) loop(c *call, x api.Node) int {
	test, inner, step := x.A, x.B, -1
	if x.Kind == tree.For {
		test, inner, step = x.B, x.D, x.C
		if x.A != -1 {
			m.value(c, x.A)
		}
	}
	for first := true; x.Kind == tree.DoWhile && first || test == -1 || m.value(c, test) != 0; first = false {
		if end := m.statement(c, inner); end == broken || end == given {
			return end &^ broken
		}
		if step != -1 {
			m.value(c, step)
		}
	}
	return onward
}

func TestRuns(t *testing.T) {
	for source, want := range map[string]int{
		"int main(){return 1+2*3;}": 7, "int main(){int i;int s=0;for(i=0;i<5;++i){if(i==3)continue;s+=i;}return s;}": 7, "int main(){int i=3;while(i--)if(i==1)break;return i;}": 1, "int main(){int i=9;do i++;while(i<5);return i;}": 10,
		"void swap(int*a,int*b){int c=*a;*a=*b;*b=c;}int main(){int a=1;int b=2;swap(&a,&b);return a*10+b;}": 21, "int f(int n){if(n<2)return n;return f(n-1)+f(n-2);}int main(){return f(12);}": 144,
		"struct s{int x;struct s*next;};int main(){struct s a[3];int n;struct s*p=a;for(n=0;n<3;++n){a[n].x=n+1;a[n].next=n<2?p+n+1:0;}for(n=0;p;p=p->next)n=n*10+p->x;return n;}": 123,
		"int g=5;int n;int at(){n+=1;return n;}int a[4];int main(){a[at()]+=2;a[at()]++;++a[at()];return n*1000+a[1]*100+a[2]*10+a[3];}":                                           3211,
		"int g=1;int set(){g=10;return 1;}int main(){g+=set();return g;}":                                                                                                          2, "int main(){int a=1;a+=a=5;return a;}": 6, "int a[3];int main(){int i=0;a[i++]=i;a[i]=i++;return a[0]*10+a[1]+i*100;}": 211, "int main(){int i=0;int a[3];a[1]=0;a[++i]+=i++;return a[1]*10+i;}": 12,
		"int main(){char c=255;int old=c++;return old*2+c;}": 510, "int main(){char c=0;--c;return c;}": 255, "char g=255;int main(){int old=g++;return old*2+g;}": 510, "int main(){char a[2];a[1]=0;return a[1]--*1000+a[1];}": 255,
		"int a[4];int main(){int*p=a;*p++=1;*p++=2;*++p=3;return a[0]*1000+a[1]*100+a[2]*10+a[3]+(p-a)*10000;}": 31203, "struct s{int x[3];};struct s a[4];int main(){struct s*p=a;p++;++p;p+=1;p->x[2]=7;--p;return (p-a)*1000+a[3].x[2]*10+(int)p-(int)a;}": 2076,
		"int f(int n){if(n)return 1;}int main(){return f(1)*10+f(0);}": 10, "int main(){return putc(321)+getc();}": -1 + 65, "int main(){unsigned u=0;u-=1;return u/2==2147483647;}": 1, "int f(char c){return c;}char g(int i){return i;}int main(){return f(257)*10+g(515);}": 13,
		"int main(){return 2>1&&1>=1&&!(1>2)&&!(0>=1)&&2147483648>1&&-1<0&&!(-1<0*2147483648)&&(char)-1>0;}": 1, "int main(){int a=0;0&&(a=1);1||(a=2);return a;}": 0, "int main(){int a=0;1&&(a=1);a=a*10;0||(a=a+2);return a;}": 12,
		"int main(){int i;for(i=0;i<2;++i){int j;j+=5;if(i)return j;}return 0;}": 5,
	} {
		if _, got := run(t, read(t, source), ""); got != want {
			t.Errorf("%s: %d; wanted %d", source, got, want)
		}
	}
}
