// Package word is layer 1: operations on words of 32 bits: see shared/doc/01-word.md.
package word

import "doppel/api"

// The place of a name is the number of its operation.
var names = [...]string{
	"", "add", "sub", "mul", "div", "rem", "divu", "remu",
	"and", "or", "xor", "shl", "shr", "shru",
	"eq", "ne", "lt", "le", "ltu", "leu",
	"neg", "not", "low", "zero",
}

// Wrap is a number as a word.
func Wrap(n int) int { return int(int32(n)) }

// Is tells whether a number is a word.
func Is(n int) bool { return Wrap(n) == n }

// Plain is a word without a sign.
func Plain(n int) int { return int(uint32(n)) }

// Two tells whether an operation is one on two words.
func Two(op api.Op) bool { return api.Add <= op && op <= api.LeU }

// One tells whether an operation is one on one word.
func One(op api.Op) bool { return api.Neg <= op && op <= api.Zero }

// Steady tells whether an operation has a result for all words.
func Steady(op api.Op) bool {
	divides := api.Div <= op && op <= api.RemU
	return One(op) || Two(op) && !divides
}

// Do is the result of an operation, and whether there is one.
func Do(op api.Op, a, b int) (int, bool) {
	result := func(n int) (int, bool) { return Wrap(n), true }
	a, b = Wrap(a), Wrap(b)
	switch {
	case op == api.Div || op == api.Rem:
		goto divide
	case op == api.DivU || op == api.RemU:
		a, b = Plain(a), Plain(b)
		goto divide
	case Two(op):
		return result(ofTwo(op, a, b))
	case One(op):
		return result(ofOne(op, a))
	}
	return 0, false

divide:
	if b == 0 {
		return 0, false
	}
	if op == api.Div || op == api.DivU {
		return result(a / b)
	}
	return result(a % b)
}

// ofTwo may exceed a word: an int has room for every sum, product and shift of words.
func ofTwo(op api.Op, a, b int) int {
	shift := b & 31
	switch op {
	case api.Add:
		return a + b
	case api.Sub:
		return a - b
	case api.Mul:
		return a * b
	case api.And:
		return a & b
	case api.Or:
		return a | b
	case api.Xor:
		return a ^ b
	case api.Shl:
		return a << shift
	case api.Shr:
		return a >> shift
	case api.ShrU:
		return Plain(a) >> shift
	}
	return number(compare(op, a, b))
}

func compare(op api.Op, a, b int) bool {
	switch op {
	case api.Eq:
		return a == b
	case api.Ne:
		return a != b
	case api.Lt:
		return a < b
	case api.Le:
		return a <= b
	case api.LtU:
		return Plain(a) < Plain(b)
	}
	return Plain(a) <= Plain(b)
}

func ofOne(op api.Op, a int) int {
	switch op {
	case api.Neg:
		return -a
	case api.Not:
		return ^a
	case api.Low:
		return a & 255
	}
	return number(a == 0)
}

func number(is bool) int {
	if is {
		return 1
	}
	return 0
}

// Name is an operation's name.
func Name(op api.Op) string {
	if One(op) || Two(op) {
		return names[op]
	}
	return ""
}

// Named is the operation of a name, and whether there is one.
func Named(s string) (api.Op, bool) {
	for op := api.Add; op <= api.Zero; op++ {
		if names[op] == s {
			return op, true
		}
	}
	return 0, false
}
