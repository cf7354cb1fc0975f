package flow_test

import (
	"testing"

	"doppel/api"
	"doppel/code"
	"doppel/flow"
	"doppel/lower"
	"doppel/sample"
)

// behaves holds that a folded unit does what the unit does, with any fuel and any of some inputs. (An instruction takes the place of one: it uses as much.)
func behaves(t *testing.T, what string, u api.Unit, ends map[int]int) (count int) {
	t.Helper()
	instead, count := sample.Changed(u, flow.Fold)
	if !code.Right(u) || !code.Right(instead) {
		t.Fatal("not valid: " + what)
	}
	for input, fuel := range sample.Trials() {
		a, b := code.Run(u, []byte(input), fuel), code.Run(instead, []byte(input), fuel)
		if !sample.Same(a, b) {
			t.Fatalf("%s: with %q and a fuel of %d: %v; folded %v", what, input, fuel, a, b)
		}
		if fuel == sample.Plenty {
			ends[a.End]++
		}
	}
	return count
}

// watches holds that in a run each register has the word that is known of it, and that nothing is done that is not reached. It counts what was known.
func watches(t *testing.T, what string, u api.Unit, seen map[int]int) {
	t.Helper()
	ahead := map[string][][]value{}
	for _, f := range u.Funcs {
		ahead[f.Name] = flow.Ahead(f)
	}
	for _, input := range []string{"", "\x00\xff\x01b"} {
		r := sample.Run(u, input, 1000, func(f api.Func, at int, registers []int) {
			for register, v := range ahead[f.Name][at] {
				if v.Kind == flow.Never || v.Kind == flow.Known && v.N != registers[register] {
					t.Fatalf("%s: ahead of %d the register %d is %d, and known of it is %v: %s", what, at, register, registers[register], v, show(f))
				}
				if register >= f.Params {
					seen[v.Kind]++
				}
			}
		})
		if !sample.Agree(r, code.Run(u, []byte(input), 1000)) {
			t.Fatalf("%s: with %q: the watched run is %v", what, input, r)
		}
	}
}

func TestBehaves(t *testing.T) {
	ends, many, seen := map[int]int{}, 0, map[int]int{}
	for seed := range 4000 {
		u := sample.Unit(seed)
		many += min(behaves(t, number(seed), u, ends), 1)
		watches(t, number(seed), u, seen)
	}
	for _, end := range []int{api.Exit, api.Trap, api.Full, api.Spent} {
		if ends[end] < 100 {
			t.Error("too few ends of a sort:", end, ends)
		}
	}
	if many < 1000 || seen[flow.Known] < 10000 || seen[flow.Any] < 10000 {
		t.Error("too few units of which something is folded, or known:", many, seen)
	}
}

// TestSmallWords has units of few words: more is known where ways meet.
func TestSmallWords(t *testing.T) {
	ends, many, seen := map[int]int{}, 0, map[int]int{}
	for seed := range 2000 {
		u := sample.Unit(100_000 + seed)
		for k := range u.Funcs {
			u.Funcs[k] = smallWords(u.Funcs[k], &sample.Numbers{Seed: uint64(seed)})
		}
		many += min(behaves(t, number(seed), u, ends), 1)
		watches(t, number(seed), u, seen)
	}
	if many < 500 || ends[api.Exit] < 100 || ends[api.Trap] < 100 || seen[flow.Known] < 5000 {
		t.Error("too few units of which something is folded, or ends of a sort:", many, ends, seen)
	}
}

// TestSources has the units of sources.
func TestSources(t *testing.T) {
	for _, source := range []string{
		"int main(){return 7+1*2;}",
		"int main(){int a=1;int b=a+2;int c=b*3;return c;}",
		"int main(){int debug=0;int c;while((c=getc())>=0){if(debug)putc(63);putc(c);}return 0;}",
		"int main(){int i;int s=0;int k=3;for(i=0;i<9;i=i+1){if(k==5)continue;s=s+i*k;}return s;}",
		"int f(int n){int one=1;if(n<2)return one;return n*f(n-one);}int main(){int a[3];a[1]=f(5);int*p=a;return p[1]/2;}",
		"int main(){int x=97;switch(x){case 97:x=1;break;default:x=2;case 0:putc(65);}goto out;x=5;out:return x;}",
		"int main(){int x=getc();int y;if(x>0)y=4;else y=2+2;return y;}",
		"int main(){int zero=0;putc(65);return 1/zero;}",
		"int main(){int n=0;int m=1;for(;;){n=n*m;if(getc()<0)return n;}}",
	} {
		u, _, errno := lower.Read(source)
		if errno != api.OK {
			t.Fatal(source, errno)
		}
		if behaves(t, source, u, map[int]int{}) == 0 {
			t.Error("nothing is folded: " + source)
		}
		watches(t, source, u, map[int]int{})
	}
}
