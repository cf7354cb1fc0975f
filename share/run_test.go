package share_test

import (
	"testing"

	"doppel/api"
	"doppel/code"
	"doppel/lower"
	"doppel/sample"
	"doppel/share"
)

// allOf is All, and how much shorter that is, or 1 if it changes anything.
func allOf(f api.Func) (api.Func, int) {
	short := share.All(f)
	less := len(f.Code) - len(short.Code)
	if less == 0 && !code.Same(f, short) {
		less = 1
	}
	return short, less
}

// behaves holds that a unit with shared functions does what the unit does, with any of some inputs and each fuel, for an instruction takes the place of one; and so does one with functions made short, which is never slower.
func behaves(t *testing.T, what string, u api.Unit, ends map[int]int) (count, less int) {
	t.Helper()
	shared, count := sample.Changed(u, share.Of)
	short, less := sample.Changed(u, allOf)
	if !code.Right(u) || !code.Right(shared) || !code.Right(short) {
		t.Fatal("not valid: " + what)
	}
	for input, fuel := range sample.Trials() {
		is := code.Run(u, []byte(input), fuel)
		if r := code.Run(shared, []byte(input), fuel); !sample.Same(is, r) {
			t.Fatalf("%s: with %q and a fuel of %d: %v; shared %v", what, input, fuel, is, r)
		}
		if r := code.Run(short, []byte(input), fuel); !sample.Agree(is, r) || is.End != api.Spent && r.End == api.Spent {
			t.Fatalf("%s: with %q and a fuel of %d: %v; made short %v", what, input, fuel, is, r)
		}
		if fuel == sample.Plenty {
			ends[is.End]++
		}
	}
	return count, less
}

func TestBehaves(t *testing.T) {
	ends, shared, short := map[int]int{}, 0, 0
	for seed := range 6000 {
		u, numbers := sample.Unit(seed), &sample.Numbers{Seed: uint64(seed)}
		for k := range u.Funcs {
			if seed%3 > 0 {
				u.Funcs[k] = few(u.Funcs[k], numbers)
			}
		}
		count, less := behaves(t, number(seed), u, ends)
		shared, short = shared+min(count, 1), short+min(less, 1)
	}
	for _, end := range []int{api.Exit, api.Trap, api.Full, api.Spent} {
		if ends[end] < 100 {
			t.Error("too few ends of a sort:", end, ends)
		}
	}
	if shared < 2000 || short < 2000 {
		t.Error("too few units of which something is shared, or made short:", shared, short)
	}
}

// putsAll is a unit with a function alone, which takes each of its registers in at its beginning, and puts it out at its end.
func putsAll(f api.Func) api.Unit {
	f.Name, f.Params = "main", 0
	ahead, behind := list{}, list{}
	for register := range f.Regs {
		ahead = append(ahead, sample.Getc(register))
		behind = append(behind, sample.Putc(register))
	}
	f.Code = append(append(ahead, f.Code[:len(f.Code)-1]...), append(behind, f.Code[len(f.Code)-1])...)
	return api.Unit{Funcs: []api.Func{f}, Top: 1}
}

// TestRegisters holds that each register is the same at the end of a run in which much is shared.
func TestRegisters(t *testing.T) {
	shared := 0
	for seed := range 6000 {
		numbers := &sample.Numbers{Seed: uint64(90_000 + seed)}
		f := straight(5+numbers.Below(30), 2+numbers.Below(7), numbers)
		for at, i := range f.Code {
			// What may end the run, and other functions, are put out of the way.
			if i.Kind == api.Call || i.Kind == api.Load || i.Kind == api.Store || i.Kind == api.Binary && i.Op == api.Div {
				f.Code[at] = sample.Unary(api.Not, max(i.Dst, 0), i.A)
			}
		}
		u := putsAll(f)
		count, _ := behaves(t, number(seed), u, map[int]int{})
		shared += min(count/3, 1)
		if r := code.Run(u, []byte("hello, world"), sample.Plenty); r.End != api.Exit {
			t.Fatal("not to its end:", r, show(f))
		}
	}
	if shared < 2000 {
		t.Error("too few of which much is shared:", shared)
	}
}

// TestSources has the units of sources.
func TestSources(t *testing.T) {
	for _, source := range []string{
		"int main(){int a=getc();int b=a+2;int c=a+2;return b*c;}",
		"int a[9];int main(){int i=getc()&7;a[i]=3;a[i]=a[i]+a[i];return a[i];}",
		"int main(){int c;while((c=getc())>=0)if(c>96&&c<123)putc(c-32);else putc(c);return 0;}",
		"int f(int x,int y){return(x-y)*(x-y)+(x-y);}int main(){return f(getc(),3);}",
		"int f(int n){if(n<2)return 1;return n*f(n-1);}int main(){int a[3];a[1]=f(5);int*p=a;return p[1]/2+a[1]/2;}",
		"int main(){int x=getc();int y=x;int z=y;switch(z){case 97:x=y+1;break;default:x=z+1;case 0:putc(y+1);}return x;}",
		"int main(){int i;int s=0;for(i=0;i<9;i=i+1){int d=i*i;s=s+d+i*i;putc(65+d);putc(65+i*i);}return s;}",
		"int main(){int x=getc();int zero=x-x;return 1/zero+1/zero;}",
	} {
		u, _, errno := lower.Read(source)
		if errno != api.OK {
			t.Fatal(source, errno)
		}
		if count, less := behaves(t, source, u, map[int]int{}); count == 0 || less < 2 {
			t.Error("too little is shared, or made short:", source, count, less)
		}
	}
}
