package live_test

import (
	"testing"
	"time"

	"doppel/api"
	"doppel/code"
	"doppel/live"
	"doppel/sample"
)

const (
	most      = api.MaxCode
	registers = api.MaxRegs
)

// long makes a function as long as may be, with all registers; the last instruction is given.
func long(last api.Instr, make func(at int) api.Instr) api.Func {
	return sample.Long(most, registers, last, make)
}

// inTime holds that something is done within seconds. (It takes much less than one; there is much room for a slow machine.)
func inTime(t *testing.T, what string, do func()) {
	t.Helper()
	begin := time.Now()
	do()
	if took := time.Since(begin); took > 20*time.Second {
		t.Error(what+": it took", took)
	}
}

// counts holds how many registers are live ahead of an instruction, and behind it. (The lists take much memory: one of the two goes before the other one comes.)
func counts(t *testing.T, what string, f api.Func, want func(at int) (ahead, behind int)) {
	t.Helper()
	if !code.RightFunc(f) {
		t.Fatal(what + ": not valid")
	}
	inTime(t, what+": Ahead", func() {
		for at, l := range live.Ahead(f) {
			ahead, _ := want(at)
			rises(t, what+": Ahead at "+number(at), l, ahead)
		}
	})
	inTime(t, what+": Behind", func() {
		for at, l := range live.Behind(f) {
			_, behind := want(at)
			rises(t, what+": Behind at "+number(at), l, behind)
		}
	})
}

// rises holds how long a list is, and that it is in order.
func rises(t *testing.T, what string, l []int, long int) {
	t.Helper()
	if len(l) != long {
		t.Fatal(what, "are", len(l), "wanted", long)
	}
	for k := 1; k < long; k++ {
		if l[k] <= l[k-1] {
			t.Fatal(what + ": not in order")
		}
	}
}

// sweeps holds how many instructions are dead, and how many go.
func sweeps(t *testing.T, what string, f api.Func, dead, gone int) {
	t.Helper()
	if !code.RightFunc(f) {
		t.Fatal(what + ": not valid")
	}
	inTime(t, what+": Dead", func() {
		if l := live.Dead(f); len(l) != dead {
			t.Error(what, "Dead are", len(l), "wanted", dead)
		}
	})
	inTime(t, what+": Sweep", func() {
		if swept, n := live.Sweep(f); n != gone || len(swept.Code) != len(f.Code)-gone {
			t.Error(what, "Sweep takes", n, "away; wanted", gone)
		}
	})
}

// sixth is a Call that reads six registers.
func sixth(n int) api.Instr {
	i := sample.Call(-1, "g", 0, 0, 0, 0, 0, 0)
	for k := range i.Args {
		i.Args[k] = (6*n + k) % registers
	}
	return i
}

// TestLongLive has every register live everywhere, or as long as may be.
func TestLongLive(t *testing.T) {
	around := long(sample.Jump(0), sixth)
	counts(t, "live everywhere", around, func(int) (int, int) { return registers, registers })
	sweeps(t, "live everywhere", around, 0, 0)
	each := long(sample.Return(registers-1), func(at int) api.Instr {
		if at < registers {
			return sample.Const(at, at)
		}
		return sample.Putc(at - registers)
	})
	counts(t, "set once, read once", each, func(at int) (int, int) {
		if at < registers {
			return at, at + 1
		}
		return most - at, most - at - 1
	})
	sweeps(t, "set once, read once", each, 0, 0)
	none := long(sample.Jump(0), func(at int) api.Instr { return sample.Const(at%registers, 0) })
	counts(t, "never read", none, func(int) (int, int) { return 0, 0 })
	sweeps(t, "never read", none, most-1, most-1)
}

// TestLongSweeps has instructions of which each is dead only once the next one went.
func TestLongSweeps(t *testing.T) {
	chain := long(sample.Return(registers-1), func(at int) api.Instr { return sample.Copy((at+1)%2, at%2) })
	sweeps(t, "two registers", chain, 1, most-1)
	chain = long(sample.Return(registers-1), func(at int) api.Instr {
		return sample.Binary(api.Add, (at+1)%(registers-1), at%(registers-1), at%(registers-1))
	})
	sweeps(t, "many registers", chain, 1, most-1)
	// In a loop that goes the other way, each is dead once the one ahead of it went.
	back := long(sample.Jump(0), func(at int) api.Instr {
		if at >= registers-1 {
			return sample.Putc(registers - 1)
		}
		return sample.Copy(at, at+1)
	})
	back.Code[registers-2] = sample.Const(registers-2, 1)
	sweeps(t, "against a loop", back, 1, registers-1)
	// What else reads the register of each one is set at each time.
	other := long(sample.Jump(0), func(at int) api.Instr {
		switch at % 3 {
		case 0:
			return sample.Copy(at/3+1, at/3)
		case 1:
			return sample.Getc(at/3 + 1)
		}
		return sample.Putc(at/3 + 1)
	})
	sweeps(t, "with others", other, most/3+1, most/3+1)
}

// TestLongEdges has as many edges as may be.
func TestLongEdges(t *testing.T) {
	all := long(sample.Branch(1, 0, most-1), func(at int) api.Instr { return sample.Branch(at%registers, 0, at+1) })
	counts(t, "edges to 0", all, func(int) (int, int) { return registers, registers })
	sweeps(t, "edges to 0", all, 0, 0)
	over := long(sample.Return(0), func(at int) api.Instr {
		if at%2 == 1 {
			return sample.Const(3, at)
		}
		return sample.Branch(2, min(at+3, most-1), at+1)
	})
	sweeps(t, "edges over what is dead", over, most/2-1, most/2-1)
	out := long(sample.Return(0), func(at int) api.Instr { return sample.Jump(most - 1) })
	sweeps(t, "edges to the end", out, 0, most-2)
}
