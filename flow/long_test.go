package flow_test

import (
	"testing"
	"time"

	"doppel/api"
	"doppel/code"
	"doppel/flow"
	"doppel/sample"
)

// room is the greatest number of instructions times one more than the number of registers.
const room = 1 << 16

// inTime holds that something is done within seconds. (It takes much less than one; there is much room for a slow machine.)
func inTime(t *testing.T, what string, do func()) {
	t.Helper()
	begin := time.Now()
	do()
	if took := time.Since(begin); took > 20*time.Second {
		t.Error(what+": it took", took)
	}
}

// counts holds how many values of each kind there are, and how many instructions are folded.
func counts(t *testing.T, what string, f api.Func, never, known, any, count int) {
	t.Helper()
	if !code.RightFunc(f) {
		t.Fatal(what + ": not valid")
	}
	kinds := map[int]int{}
	inTime(t, what+": Ahead", func() {
		for _, l := range flow.Ahead(f) {
			for _, v := range l {
				kinds[v.Kind]++
			}
		}
	})
	if kinds[flow.Never] != never || kinds[flow.Known] != known || kinds[flow.Any] != any {
		t.Errorf("%s: %d, %d and %d values are Never, Known and Any; wanted %d, %d and %d", what, kinds[flow.Never], kinds[flow.Known], kinds[flow.Any], never, known, any)
	}
	inTime(t, what+": Fold", func() {
		if folded, n := flow.Fold(f); n != count || len(folded.Code) != len(f.Code) || !code.RightFunc(folded) {
			t.Errorf("%s: Fold changes %d; wanted %d", what, n, count)
		}
	})
}

// TestRoom has functions at the limit, and above it, where nothing is told any more.
func TestRoom(t *testing.T) {
	for _, c := range []struct{ many, registers int }{
		{api.MaxCode, 7}, {api.MaxCode, 8}, {api.MaxCode, 6}, {7281, 8}, {7282, 8}, {256, 255}, {257, 255}, {256, 256}, {255, 256}, {331, 197}, {16, 4095}, {17, 4095}, {16, 4096}, {15, 4096}, {api.MaxCode, api.MaxRegs}, {1, api.MaxRegs}, {2, api.MaxRegs}, {api.MaxCode, 1}, {api.MaxCode, 0}, {1, 0}, {32, 2047}, {33, 2047}, {32, 2048}, {4096, 15}, {4097, 15}, {4096, 16},
	} {
		what := number(c.many) + " instructions, " + number(c.registers) + " registers"
		f := sample.Long(c.many, c.registers, sample.Jump(0), func(at int) api.Instr { return sample.Copy(at%max(c.registers, 1), 0) })
		if c.registers == 0 {
			f = sample.Long(c.many, 0, sample.Jump(0), func(at int) api.Instr { return sample.Jump(at + 1) })
		}
		if !code.RightFunc(f) {
			t.Fatal(what + ": not valid")
		}
		ahead := flow.Ahead(f)
		folded, count := flow.Fold(f)
		if c.many*(c.registers+1) > room {
			if len(ahead) != 0 || count != 0 || !code.Same(folded, f) {
				t.Error(what+": something is told:", len(ahead), count)
			}
			continue
		}
		for at, l := range ahead {
			if len(l) != c.registers {
				t.Fatal(what+": ahead of", at, "are", len(l))
			}
			for _, v := range l {
				if v != (value{Kind: flow.Known}) {
					t.Fatal(what+": ahead of", at, "is", v)
				}
			}
		}
		if len(ahead) != c.many || c.registers > 0 && count != c.many-1 {
			t.Error(what+": too little is told:", len(ahead), count)
		}
	}
}

// TestLongLoops has loops that make one register after another unknown, each at one place after another.
func TestLongLoops(t *testing.T) {
	for _, c := range []struct{ many, registers int }{{256, 255}, {api.MaxCode, 7}, {16, 4095}, {1024, 63}, {128, 511}} {
		what := number(c.many) + " instructions, " + number(c.registers) + " registers"
		// Each round only one more is not known, as what is copied goes the other way.
		chain := min(c.many-2, c.registers-1)
		back := sample.Long(c.many, c.registers, sample.Jump(0), func(at int) api.Instr {
			switch {
			case at < chain:
				return sample.Copy(chain-at, chain-at-1)
			case at == chain:
				return sample.Getc(0)
			}
			return sample.Putc(0)
		})
		counts(t, what+", against the loop", back, 0, c.many*(c.registers-chain-1), c.many*(chain+1), 0)
		// Each instruction leads to the beginning and to the end, too.
		ways := sample.Long(c.many, c.registers, sample.Branch(0, 0, c.many-1), func(at int) api.Instr {
			if at%2 == 0 {
				return sample.Getc(at / 2 % c.registers)
			}
			return sample.Branch(at/2%c.registers, (at+2)%c.many, at+1)
		})
		set := min(c.many/2, c.registers)
		inTime(t, what+", back and on", func() {
			any := 0
			for _, v := range flow.Ahead(ways)[c.many-1] {
				any += v.Kind / flow.Any
			}
			if any != set {
				t.Error(what+", back and on: not known are", any, "wanted", set)
			}
		})
	}
}

// TestLongStraight has functions at the limit without a loop.
func TestLongStraight(t *testing.T) {
	const many, registers = api.MaxCode, 7
	sum := sample.Long(many, registers, sample.Return(0), func(at int) api.Instr {
		if at == 0 {
			return sample.Const(1, 3)
		}
		return sample.Binary(api.Add, 0, 0, 1)
	})
	counts(t, "a sum", sum, 0, many*registers, 0, many-2)
	if last := flow.Ahead(sum)[many-1][0]; last != (value{flow.Known, 3 * (many - 2)}) {
		t.Error("the sum is", last)
	}
	counts(t, "edges to the end", sample.Long(many, registers, sample.Return(0), func(int) api.Instr { return sample.Branch(0, many-1, many-1) }), (many-2)*registers, 2*registers, 0, 1)
	counts(t, "one Branch after another", sample.Long(many, registers, sample.Return(0), func(at int) api.Instr { return sample.Branch(0, many-1, at+1) }), 0, many*registers, 0, many-1)
	counts(t, "one Branch after another, of what is not known", sample.Long(many, registers, sample.Return(0), func(at int) api.Instr {
		if at == 0 {
			return sample.Getc(0)
		}
		return sample.Branch(0, min(at+2, many-1), at+1)
	}), 0, many*registers-(many-1), many-1, 0)
	counts(t, "all back", sample.Long(many, registers, sample.Branch(0, 0, many-1), func(at int) api.Instr {
		if at%2 == 0 {
			return sample.Load(at/2%registers, 0)
		}
		return sample.Branch(0, 0, at+1)
	}), 0, 0, many*registers, 0)
}
