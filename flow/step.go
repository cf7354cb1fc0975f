package flow

import (
	"doppel/api"
	"doppel/code"
	"doppel/word"
)

// teller tells what is known of a register at a place that is reached: it is never Never.
type teller func(register int) Value

// first tells what is known as a function begins.
func first(params int) teller {
	return func(register int) Value {
		if register < params {
			return Value{Kind: Any}
		}
		return Value{Kind: Known}
	}
}

func listed(values []Value) teller {
	return func(register int) Value { return values[register] }
}

// behind tells what is known as an instruction has ended.
func behind(i api.Instr, known teller) teller {
	set, v := code.Sets(i), result(i, known)
	return func(register int) Value {
		if register == set {
			return v
		}
		return known(register)
	}
}

// result is what is known of the register that an instruction sets, as it has ended.
func result(i api.Instr, known teller) Value {
	switch i.Kind {
	case api.Const:
		return Value{Known, i.N}
	case api.Copy:
		return known(i.A)
	case api.Unary, api.Binary:
		v, _ := operation(i, known)
		return v
	}
	return Value{Kind: Any}
}

// operation is what is known of what an operation makes, and whether it may make anything.
func operation(i api.Instr, known teller) (Value, bool) {
	for _, register := range code.Uses(i) {
		if known(register).Kind != Known {
			return Value{Kind: Any}, true
		}
	}
	// An operation on one word takes no notice of B.
	n, is := word.Do(i.Op, known(i.A).N, known(i.B).N)
	if !is {
		return Value{Kind: Any}, false
	}
	return Value{Known, n}, true
}

// ways is where a function may go on behind an instruction.
func ways(i api.Instr, at int, known teller) []int {
	switch i.Kind {
	case api.Unary, api.Binary:
		if _, may := operation(i, known); !may {
			return nil
		}
	case api.Branch:
		if to, is := chosen(i, known); is {
			return []int{to}
		}
	}
	return code.Next(i, at)
}

// chosen is where a Branch goes on, if that is known.
func chosen(i api.Instr, known teller) (int, bool) {
	switch v := known(i.A); {
	case v.Kind != Known:
		return 0, false
	case v.N != 0:
		return i.To, true
	}
	return i.Else, true
}
