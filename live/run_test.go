package live_test

import (
	"testing"

	"doppel/api"
	"doppel/code"
	"doppel/live"
	"doppel/lower"
	"doppel/sample"
)

// behaves holds that a swept unit does what the unit does, with any fuel and any of some inputs; it is never slower.
func behaves(t *testing.T, what string, u api.Unit, ends map[int]int) (gone int) {
	t.Helper()
	less, gone := sample.Changed(u, live.Sweep)
	if !code.Right(u) || !code.Right(less) {
		t.Fatal("not valid: " + what)
	}
	for input, fuel := range sample.Trials() {
		a, b := code.Run(u, []byte(input), fuel), code.Run(less, []byte(input), fuel)
		if !sample.Agree(a, b) || a.End != api.Spent && b.End == api.Spent {
			t.Fatalf("%s: with %q and a fuel of %d: %v; swept %v", what, input, fuel, a, b)
		}
		if fuel == sample.Plenty {
			ends[a.End]++
		}
	}
	return gone
}

func TestBehaves(t *testing.T) {
	ends, gone := map[int]int{}, 0
	for seed := range 4000 {
		gone += min(behaves(t, number(seed), sample.Unit(seed), ends), 1)
	}
	for _, end := range []int{api.Exit, api.Trap, api.Full, api.Spent} {
		if ends[end] < 100 {
			t.Error("too few ends of a sort:", end, ends)
		}
	}
	if gone < 1000 {
		t.Error("too few units of which something is swept:", gone)
	}
}

// TestSources has the units of sources.
func TestSources(t *testing.T) {
	for _, source := range []string{
		"int main(){return 7;}",
		"int main(){int a=1;int b=a+2;int c=b*3;return a;}",
		"int main(){int i;int s=0;for(i=0;i<9;i=i+1){int unused=s*i;if(i==5)continue;s=s+i;}return s;}",
		"int main(){int c;while((c=getc())>=0)putc(c);return 0;return 1;}",
		"int f(int n){if(n<2)return 1;return n*f(n-1);}int main(){int a[3];a[1]=f(5);int*p=a;return p[1]/2;}",
		"int main(){int x=getc();switch(x){case 97:x=1;break;default:x=2;case 0:putc(65);}goto out;x=5;out:return x;}",
		"int main(){1+2;int x=1/getc();return 3;}",
		"int main(){int n=0;int m=0;for(;;){n=n+1;m=m+n;if(getc()<0)return 0;}}",
	} {
		u, _, errno := lower.Read(source)
		if errno != api.OK {
			t.Fatal(source, errno)
		}
		if behaves(t, source, u, map[int]int{}) == 0 {
			t.Error("nothing is swept: " + source)
		}
	}
}
