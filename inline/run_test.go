package inline_test

import (
	"slices"
	"testing"

	"doppel/api"
	"doppel/code"
	"doppel/inline"
	"doppel/lower"
	"doppel/sample"
)

// longer is how many instructions may take the place of one at most, of those that are done, in the units that are run here.
const longer = 30

// behaves holds that a unit in which calls are expanded does what the unit does, and so does one in which they are in one function alone, and one in which they are once more. It tells how many calls are expanded.
func behaves(t *testing.T, what string, u api.Unit, ends map[int]int) (count int) {
	t.Helper()
	valid(t, what, u)
	all := inline.All(u)
	changed := []api.Unit{all, inline.All(all)}
	for k := range u.Funcs {
		f, many := inline.Of(u, k)
		count += many
		if k == count%len(u.Funcs) {
			one := u
			one.Funcs = slices.Clone(u.Funcs)
			one.Funcs[k] = f
			changed = append(changed, one)
		}
	}
	for _, c := range changed {
		valid(t, what+", expanded", c)
	}
	for input, fuel := range sample.Trials() {
		is := code.Run(u, []byte(input), fuel)
		for _, c := range changed {
			if r := code.Run(c, []byte(input), fuel); !sample.Agree(is, r) {
				t.Fatalf("%s: with %q and a fuel of %d: %v; expanded %v, %s", what, input, fuel, is, r, show(c))
			}
			if fuel != sample.Plenty || is.End == api.Spent {
				continue
			}
			if r := code.Run(c, []byte(input), longer*fuel); !sample.Same(is, r) {
				t.Fatalf("%s: with %q and enough fuel: %v; expanded %v, %s", what, input, is, r, show(c))
			}
		}
		if fuel == sample.Plenty {
			ends[is.End]++
		}
	}
	return count
}

// within tells whether a run ends by an instruction of a small function.
func within(u api.Unit) bool {
	last := ""
	sample.Run(u, "a", sample.Plenty, func(f api.Func, at int, registers []int) { last = f.Name })
	return slices.ContainsFunc(u.Funcs, func(f api.Func) bool { return f.Name == last && small(f) })
}

// TestBehaves has pseudo-random units, in which small functions are called often.
func TestBehaves(t *testing.T) {
	ends, expanded, inside := map[int]int{}, 0, 0
	for seed := range 1500 {
		u := mixed(100_000 + seed)
		count := behaves(t, show(u), u, ends)
		expanded += min(count, 1)
		if r := code.Run(u, []byte("a"), sample.Plenty); r.End == api.Trap && within(u) {
			inside++
		}
	}
	for _, end := range []int{api.Exit, api.Trap, api.Full, api.Spent} {
		if ends[end] < 100 {
			t.Error("too few ends of a sort:", end, ends)
		}
	}
	if expanded < 1200 || inside < 150 {
		t.Error("too few units of a sort:", expanded, inside)
	}
}

// TestSmallOnesRun has small functions of each kind of instruction, in callers with a frame and without one, with what comes of them.
func TestSmallOnesRun(t *testing.T) {
	trap := function("trap", 1, 2, "const 1 1; div 1 1 0; return 1")
	load := function("load", 1, 1, "load 0 0; return 0")
	store := function("store", 2, 2, "store 0 1; return 1")
	read := function("read", 0, 1, "getc 0; return 0")
	put := function("put", 1, 1, "putc 0; return 0")
	frame := function("frame", 0, 1, "frame 0 0; return 0")
	swap := function("swap", 1, 3, "frame 1 0; load 2 1; store 1 0; return 2")
	// add tells 1 the first time, as its last register is 0 then; it must be so each time.
	add := function("add", 1, 3, "const 1 1; add 2 2 1; putc 2; return 2")
	deep := sample.Func("deep", 1, 3, 700, sample.Read("call 1 put 0; call 1 swap 0; putc 1; call 2 deep 1; return 2")...)
	held := sample.Func("held", 1, 3, 2, sample.Read("frame 1 0; store 1 0; call 2 swap 0; load 2 1; return 2")...)
	for what, c := range map[string]struct {
		text   string
		end    int
		code   int
		output string
	}{
		"a division by 0":          {"const 0 0; putc 0; call 1 trap 0; putc 1; return 1", api.Trap, 2, "\x00"},
		"a division":               {"const 0 1; putc 0; call 1 trap 0; putc 1; return 1", api.Exit, 1, "\x01\x01"},
		"a Load at 0":              {"const 0 0; putc 0; call 1 load 0; return 1", api.Trap, 1, "\x00"},
		"a Load at 4096":           {"const 0 4096; call -1 load 0; return 0", api.Trap, 1, ""},
		"a Store at 0":             {"const 0 0; putc 0; call 1 store 0 0; return 1", api.Trap, 1, "\x00"},
		"a Store, then a Load":     {"const 0 4000; const 1 7; call -1 store 0 1; call 0 load 0; return 0", api.Exit, 7, ""},
		"what is read":             {"call 0 read; call 1 read; call 2 read; putc 2; putc 1; putc 0; return 2", api.Exit, 'y', "yxa"},
		"what is put out":          {"const 0 65; call 0 put 0; call -1 put 0; return 0", api.Exit, 65, "AA"},
		"a frame of no words":      {"call 0 frame; return 0", api.Exit, 50, ""},
		"a frame twice":            {"call 0 frame; call 1 frame; sub 0 0 1; return 0", api.Exit, 0, ""},
		"a frame, beside main's":   {"call 0 frame; frame 1 0; sub 0 0 1; return 0", api.Exit, 0, ""},
		"registers are 0 again":    {"const 0 3; const 1 1; call -1 add 0; sub 0 0 1; branch 0 2 5; return 0", api.Exit, 0, "\x01\x01\x01"},
		"a word that is kept":      {"const 0 7; call 1 swap 0; call 1 swap 1; return 1", api.Exit, 7, ""},
		"within one another":       {"const 0 7; call 0 held 0; return 0", api.Exit, 7, ""},
		"more deeply than may be":  {"const 0 7; call 0 deep 0; return 0", api.Full, 0, "\x07\x00\x00\x00\x00\x00\x00\x00\x00\x00"},
		"a loop without end":       {"const 0 65; call 0 put 0; jump 0", api.Spent, 0, ""},
		"the result is not wanted": {"const 0 65; call -1 frame; return 0", api.Exit, 65, ""},
	} {
		for own := range 4 {
			u := unit(sample.Func("main", 0, 3, own, sample.Read(c.text)...), trap, load, store, read, put, frame, swap, add, deep, held)
			u.Top = 50
			want := api.Result{End: c.end, Code: c.code, Output: []byte(c.output)}
			switch {
			case what == "a frame of no words" || what == "a frame, beside main's":
				want.Code += own
			case c.end == api.Spent:
				want.Output = slices.Repeat([]byte("A"), 3000)
			}
			for _, v := range []api.Unit{u, inline.All(u), inline.All(inline.All(u))} {
				if r := code.Run(v, []byte("axyz"), 9001); !sample.Same(r, want) && !(c.end == api.Spent && sample.Agree(r, want)) {
					t.Errorf("%s, a frame of %d: %v; wanted %v, %s", what, own, r, want, show(v))
				}
			}
			if behaves(t, what, u, map[int]int{}) == 0 {
				t.Error("nothing is expanded: " + what)
			}
		}
	}
}

// TestSources has the units of sources.
func TestSources(t *testing.T) {
	for _, source := range []string{
		"int same(int x){return x;}int main(){return same(getc());}",
		"int twice(int x){return x+x;}int main(){return twice(twice(getc()));}",
		"int most(int a,int b){if(a<b)return b;return a;}int main(){int c;int m=0;while((c=getc())>=0)m=most(m,c);return m;}",
		"int up(int c){return c-(c>96)*32;}int main(){int c;while((c=getc())>=0)putc(up(c));return 0;}",
		"int n;int next(){n=n+1;return n;}int main(){int a[3];a[0]=next();a[1]=next();a[2]=next()+next();return a[2]*next();}",
		"void set(int*p,int v){*p=v;}int main(){int a[2];set(a,5);set(a+1,getc());return a[0]+a[1];}",
		"int part(int a,int b){return a/b;}int main(){return part(100,getc()-97);}",
		"int one(int x){return x-1;}int f(int n){int a[9];if(n==0)return 0;return f(one(n))+1;}int main(){return f(500);}",
		"void out(int c){putc(c);}int f(int n){int a[9];out(n);return f(n+1);}int main(){return f(65);}",
	} {
		u, _, errno := lower.Read(source)
		if errno != api.OK {
			t.Fatal(source, errno)
		}
		if behaves(t, source, u, map[int]int{}) == 0 {
			t.Error("nothing is expanded:", source)
		}
		holds(t, source, u)
	}
}
