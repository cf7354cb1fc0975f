package share_test

import (
	"testing"
	"time"

	"doppel/api"
	"doppel/code"
	"doppel/sample"
	"doppel/share"
)

const (
	most      = api.MaxCode
	registers = api.MaxRegs
)

// inTime holds that something is done within seconds. (It takes much less than one, and All a few; there is much room for a slow machine.)
func inTime(t *testing.T, what string, do func()) {
	t.Helper()
	begin := time.Now()
	do()
	if took := time.Since(begin); took > 60*time.Second {
		t.Error(what+": it took", took)
	}
}

// long is how many runs a function has, how many instructions Of changes, and how many are left by All.
type long struct {
	what            string
	f               api.Func
	runs, many, all int
}

func (l long) tells(t *testing.T) {
	t.Helper()
	if !code.RightFunc(l.f) {
		t.Fatal(l.what + ": not valid")
	}
	inTime(t, l.what+": Firsts", func() {
		runs := 0
		for _, is := range share.Firsts(l.f) {
			if is {
				runs++
			}
		}
		if runs != l.runs {
			t.Errorf("%s: there are %d runs; wanted %d", l.what, runs, l.runs)
		}
	})
	inTime(t, l.what+": Of", func() {
		if shared, many := share.Of(l.f); many != l.many || unlike(l.f, shared) != many || !code.RightFunc(shared) {
			t.Errorf("%s: Of changes %d; wanted %d", l.what, many, l.many)
		}
	})
	inTime(t, l.what+": All", func() {
		if short := share.All(l.f); len(short.Code) != l.all || !code.RightFunc(short) {
			t.Errorf("%s: All leaves %d; wanted %d", l.what, len(short.Code), l.all)
		}
	})
}

// around is a function of all registers, as long as may be, that tells its last one.
func around(make func(at, register int) api.Instr) api.Func {
	return sample.Long(most, registers, sample.Return(registers-1), func(at int) api.Instr { return make(at, at%registers) })
}

// TestLongRun has functions of one run.
func TestLongRun(t *testing.T) {
	const half = registers / 2
	next := func(register int) int { return (register + 1) % registers }
	for _, l := range []long{
		{"nothing to share", around(func(at, register int) api.Instr { return sample.Binary(api.Add, next(register), register, register) }), 1, 0, most},
		{"one result, in one register", around(func(at, register int) api.Instr { return sample.Frame(7, 0) }), 1, most/2 - 1, 1},
		// The first one holds it until it is set, then the second one.
		{"one result, in all registers", around(func(at, register int) api.Instr { return sample.Frame(register, 0) }), 1, most - 3, 2},
		{"all copied from one", around(func(at, register int) api.Instr {
			if at == 0 {
				return sample.Getc(0)
			}
			return sample.Copy(1+at%(registers-1), 0)
		}), 1, 1, 2},
		// All equal the register 0, until it is set to itself.
		{"each copied from the one ahead of it", around(func(at, register int) api.Instr { return sample.Copy(next(register), register) }), 1, most - 2, 2},
		{"many results of one register, which is set then", around(func(at, register int) api.Instr {
			switch register {
			case 0:
				return sample.Getc(0)
			case half:
				return sample.Putc(0)
			}
			return sample.Binary(api.Add, register%half, 0, half+register%half)
		}), 1, 2*(half-1) - 1, 5},
		{"one register that is read everywhere", around(func(at, register int) api.Instr {
			switch at {
			case 0:
				return sample.Getc(0)
			case 1:
				return sample.Copy(registers-1, 0)
			}
			return sample.Call(-1, "g", registers-1, registers-1, registers-1, registers-1, registers-1, registers-1)
		}), 1, most - 2, most - 1},
		{"one result, whose register is set again and again", around(func(at, register int) api.Instr {
			if at%2 == 0 {
				return sample.Unary(api.Neg, 1, 0)
			}
			return sample.Getc(1)
		}), 1, 0, most / 2},
		{"one Copy, whose register is set again and again", around(func(at, register int) api.Instr {
			if at%2 == 0 {
				return sample.Copy(1, 0)
			}
			return sample.Store(1, 1)
		}), 1, most/2 - 1, most / 2},
		{"many rounds", shift(2000), 1, 0, 5984},
	} {
		l.tells(t)
	}
}

// TestLongRuns has functions of many runs.
func TestLongRuns(t *testing.T) {
	for _, l := range []long{
		{"each a run", sample.Long(most, 8, sample.Jump(0), func(at int) api.Instr { return sample.Branch(at%8, 0, at+1) }), most, 0, most},
		{"four instructions each", sample.Long(most, 8, sample.Return(2), func(at int) api.Instr {
			return []api.Instr{sample.Frame(1, 0), sample.Frame(2, 0), sample.Putc(2), sample.Jump(at + 1)}[at%4]
		}), most / 4, most/2 + 1, most / 4 * 3},
		{"a long one, then many", around(func(at, register int) api.Instr {
			if at < registers {
				return sample.Frame(register, 0)
			}
			return sample.Branch(register, 0, at+1)
		}), most / 2, registers - 1, most},
		{"not reached", sample.Long(most, 8, sample.Return(2), func(at int) api.Instr {
			return []api.Instr{sample.Return(0), sample.Frame(1, 0), sample.Frame(2, 0), sample.Putc(2)}[at%4]
		}), 1 + most/4, most / 2, 1},
	} {
		l.tells(t)
	}
}

// TestTooLong has functions that may not be, as they are too long.
func TestTooLong(t *testing.T) {
	for _, many := range []int{most + 1, 10_000, 100_000} {
		f := sample.Long(many, 8, sample.Return(2), func(at int) api.Instr { return sample.Frame(at%8, 0) })
		inTime(t, number(many)+" instructions", func() { holds(t, number(many)+" instructions", f, all{shared: f, short: f}) })
	}
}
