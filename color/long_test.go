package color_test

import (
	"slices"
	"testing"
	"time"

	"doppel/api"
	"doppel/code"
	"doppel/color"
	"doppel/graph"
	"doppel/live"
	"doppel/lower"
	"doppel/sample"
)

const (
	most      = api.MaxCode
	registers = api.MaxRegs
)

// inTime holds that all is told of a long function within seconds, and that it is in order. (Each call takes a second or two where there are millions of conflicts; there is much room for a slow machine.)
func inTime(t *testing.T, what string, f api.Func) all {
	t.Helper()
	if !code.RightFunc(f) {
		t.Fatal("not valid: " + what)
	}
	begin := time.Now()
	l := told(f)
	is := color.Fine(f, l.places)
	if took := time.Since(begin); took > 60*time.Second {
		t.Error(what+": it took", took)
	}
	if !is {
		t.Error(what + ": what Of tells is not fine")
	}
	return l
}

// everyOther holds that each register conflicts with all others.
func everyOther(t *testing.T, what string, meet [][]int) {
	t.Helper()
	for register, l := range meet {
		if len(l) != len(meet)-1 || !slices.IsSorted(l) || slices.Contains(l, register) || len(slices.Compact(l)) != len(meet)-1 {
			t.Fatal(what+": Meet of", register)
		}
	}
}

// TestLongTogether has all registers live together, at most or everywhere.
func TestLongTogether(t *testing.T) {
	what := "set, then read"
	l := inTime(t, what, sample.Long(most, registers, sample.Return(registers-1), func(at int) api.Instr {
		if at < registers {
			return sample.Const(at, at)
		}
		return sample.Putc(at - registers)
	}))
	everyOther(t, what, l.meet)
	same(t, what+": Of", l.places, upTo(0, registers-1))
	same(t, what+": Waits", l.waits, make([]bool, registers))
	what = "kept everywhere"
	l = inTime(t, what, sample.Long(most, registers, sample.Jump(0), func(at int) api.Instr {
		i := sample.Call(at%registers, "g", 0, 0, 0, 0, 0, 0)
		for k := range i.Args {
			i.Args[k] = (6*at + k) % registers
		}
		return i
	}))
	everyOther(t, what, l.meet)
	same(t, what+": Waits", l.waits, slices.Repeat([]bool{true}, registers))
	sorted := slices.Sorted(slices.Values(l.places))
	same(t, what+": Of", sorted, upTo(6, registers+5))
	what = "copies of one"
	l = inTime(t, what, sample.Long(registers, registers, sample.Jump(registers-1), func(at int) api.Instr { return sample.Copy(at+1, at) }))
	same(t, what+": Meet", sample.Lists(l.meet), make([][]int, registers))
	same(t, what+": Of", l.places, make([]int, registers))
}

// row is a function of registers that are set one after another. Each is read as soon as so many are live together.
func row(many, together int) api.Func {
	f := sample.Func("f", 0, many, 0)
	for register := range many {
		f.Code = append(f.Code, sample.Const(register, register))
		if register >= together-1 {
			f.Code = append(f.Code, sample.Putc(register-together+1))
		}
	}
	for register := many - together + 1; register < many; register++ {
		f.Code = append(f.Code, sample.Putc(register))
	}
	f.Code = append(f.Code, sample.Jump(len(f.Code)))
	return f
}

// TestLongRows has registers of which each conflicts with few others.
func TestLongRows(t *testing.T) {
	for together, many := range map[int]int{1: 1500, 2: 1500, 5: 1500, 6: 4000, 7: 1500, 40: 1500} {
		what := "so many together: " + number(together)
		l := inTime(t, what, row(many, together))
		for register, meet := range l.meet {
			want := upTo(max(0, register-together+1), min(many, register+together)-1)
			want = slices.DeleteFunc(want, func(other int) bool { return other == register })
			same(t, what+": Meet of "+number(register), meet, want)
			if l.weights[register] != 2 || l.places[register] != register%together {
				t.Fatal(what+":", register, "weighs", l.weights[register], "and lives at", l.places[register])
			}
		}
	}
}

// TestLongLoops has thousands of loops in one another, and beside one another.
func TestLongLoops(t *testing.T) {
	const many, regs = most/2 - 1, 50
	nest := sample.Long(most, regs+1, sample.Return(regs), func(at int) api.Instr {
		switch {
		case at < many:
			return sample.Putc(at % regs)
		case at < 2*many:
			return sample.Branch(regs, 2*many-1-at, at+1)
		}
		return sample.Putc(regs)
	})
	nested := append(make(weights, regs), complex(many+2, many*(many+1)/2))
	for at := range many {
		nested[at%regs] += complex(1, float64(at+1))
	}
	for what, c := range map[string]struct {
		f    api.Func
		want weights
	}{
		"loops in loops":                             {nest, nested},
		"loops beside one another":                   {sample.Long(4097, 64, sample.Return(0), func(at int) api.Instr { return sample.Branch(at%64, at, at+1) }), append(weights{65 + 64i}, slices.Repeat(weights{64 + 64i}, 63)...)},
		"loops beside one another, in the first one": {sample.Long(most, 64, sample.Branch(63, most-1, 0), func(at int) api.Instr { return sample.Branch(at%64, at, at+1) }), append(weights{128 + 255i}, slices.Repeat(weights{128 + 256i}, 63)...)},
		"ways back to one head":                      {sample.Long(4097, 64, sample.Jump(0), func(at int) api.Instr { return sample.Branch(at%64, 0, at+1) }), slices.Repeat(weights{64 + 64i}, 64)},
		"no loop, and ways over one another":         {sample.Long(4097, 64, sample.Return(0), func(at int) api.Instr { return sample.Branch(at%64, at+1, min(at+2, 4096)) }), append(weights{65}, slices.Repeat(weights{64}, 63)...)},
	} {
		same(t, what+": Weights", inTime(t, what, c.f).weights, c.want)
	}
}

// plain is what is to be told of a function, by what packages live and graph tell of it.
func plain(f api.Func) all {
	l := all{meet: make([][]int, f.Regs), waits: make([]bool, f.Regs), weights: make(weights, f.Regs)}
	ahead, behind := live.Ahead(f), live.Behind(f)
	pair := func(a, b int) {
		if a != b {
			l.meet[a], l.meet[b] = append(l.meet[a], b), append(l.meet[b], a)
		}
	}
	for _, together := range [][]int{ahead[0], upTo(0, f.Params-1)} {
		for _, a := range together {
			for _, b := range together {
				pair(a, b)
			}
		}
	}
	loops := make([]int, len(f.Code))
	for _, head := range graph.Heads(f) {
		for _, at := range graph.Loop(f, head) {
			loops[at]++
		}
	}
	for at, i := range f.Code {
		for _, register := range append(code.Uses(i), code.Sets(i)) {
			if register >= 0 {
				l.weights[register] += complex(1, float64(loops[at]))
			}
		}
		for _, other := range behind[at] {
			if code.Sets(i) >= 0 && !(i.Kind == api.Copy && i.A == other) {
				pair(i.Dst, other)
			}
			l.waits[other] = l.waits[other] || i.Kind == api.Call && i.Dst != other
		}
	}
	for register := range l.meet {
		slices.Sort(l.meet[register])
		l.meet[register] = slices.Compact(l.meet[register])
	}
	l.choose()
	return l
}

// TestLongRandom has pseudo-random functions of hundreds and thousands of instructions.
func TestLongRandom(t *testing.T) {
	for seed := range 60 {
		numbers := &sample.Numbers{Seed: uint64(seed)}
		many := 100 + numbers.Below(1500)
		if seed%20 == 0 {
			many = most
		}
		f := numbers.Anyhow(many, 1+numbers.Below(60))
		inTime(t, "any", f)
		if holds(t, show(f), f, plain(f)); t.Failed() {
			t.Fatal("seed", seed)
		}
	}
}

// TestSources has the functions of sources.
func TestSources(t *testing.T) {
	for _, source := range []string{
		"int main(){int c;while((c=getc())>0)putc(c+1);return c;}",
		"int f(int a,int b){return a*b+a;}int main(){int i;int s=0;for(i=0;i<9;i++)s+=f(i,s);return s;}",
		"int f(int n){if(n<2)return n;return f(n-1)+f(n-2);}int main(){return f(9);}",
		"int main(){int a[9];int i;int j;for(i=0;i<9;i++)for(j=0;j<i;j++){a[j]=i*j;while(a[j]>9)a[j]-=getc();}return a[3];}",
		"int g;int six(int a,int b,int c,int d,int e,int f){g=a+b+c;return d-e*f;}int main(){int x=getc();int y=six(x,x,g,g,1,x+1);do putc(y--);while(y>x);return y;}",
	} {
		u, _, errno := lower.Read(source)
		if errno != api.OK {
			t.Fatal(source, errno)
		}
		for _, f := range u.Funcs {
			holds(t, source, f, plain(f))
			agrees(t, f)
		}
	}
}
