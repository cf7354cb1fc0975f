// Package sample makes instructions, functions and units for the tests of the layers, and runs units another way.
package sample

import "doppel/api"

// Const to Return make an instruction of each kind: without package code, which is itself tested with them.
func Const(dst, n int) api.Instr {
	return api.Instr{Kind: api.Const, Dst: dst, N: n, Else: -1}
}

// Unary sets a register to what an operation makes of one.
func Unary(op api.Op, dst, a int) api.Instr {
	return api.Instr{Kind: api.Unary, Op: op, Dst: dst, A: a, Else: -1}
}

// Binary sets a register to what an operation makes of two.
func Binary(op api.Op, dst, a, b int) api.Instr {
	return api.Instr{Kind: api.Binary, Op: op, Dst: dst, A: a, B: b, Else: -1}
}

// Copy sets a register to another one.
func Copy(dst, a int) api.Instr { return api.Instr{Kind: api.Copy, Dst: dst, A: a, Else: -1} }

// Frame sets a register to an address in the frame.
func Frame(dst, n int) api.Instr { return api.Instr{Kind: api.Frame, Dst: dst, N: n, Else: -1} }

// Load sets a register to the word at an address.
func Load(dst, a int) api.Instr { return api.Instr{Kind: api.Load, Dst: dst, A: a, Else: -1} }

// Store sets the word at an address.
func Store(a, b int) api.Instr { return api.Instr{Kind: api.Store, Dst: -1, A: a, B: b, Else: -1} }

// Call calls a function.
func Call(dst int, name string, arguments ...int) api.Instr {
	i := api.Instr{Kind: api.Call, Dst: dst, Text: name, N: len(arguments), Else: -1}
	copy(i.Args[:], arguments)
	return i
}

// Getc takes a byte in.
func Getc(dst int) api.Instr { return api.Instr{Kind: api.Getc, Dst: dst, Else: -1} }

// Putc puts a byte out.
func Putc(a int) api.Instr { return api.Instr{Kind: api.Putc, Dst: -1, A: a, Else: -1} }

// Jump goes on elsewhere.
func Jump(to int) api.Instr { return api.Instr{Kind: api.Jump, Dst: -1, To: to, Else: -1} }

// Branch goes on at one of two places.
func Branch(a, to, otherwise int) api.Instr {
	return api.Instr{Kind: api.Branch, Dst: -1, A: a, To: to, Else: otherwise}
}

// Return ends the function.
func Return(a int) api.Instr { return api.Instr{Kind: api.Return, Dst: -1, A: a, Else: -1} }

// Kinds is an instruction of each kind, in their order; a function of them may be if it has four registers, and three words in its frame.
func Kinds() []api.Instr {
	return []api.Instr{Const(0, 5), Unary(api.Not, 1, 0), Binary(api.Sub, 1, 2, 3), Copy(2, 1), Frame(0, 3), Load(1, 2), Store(1, 2), Call(1, "g", 2, 3), Getc(3), Putc(2), Jump(1), Branch(2, 1, 2), Return(3)}
}

// Func is a function of instructions.
func Func(name string, params, regs, frame int, l ...api.Instr) api.Func {
	return api.Func{Name: name, Params: params, Regs: regs, Frame: frame, Code: l}
}

// Long is a function of many instructions without parameters and without a frame; the last instruction is given.
func Long(many, registers int, last api.Instr, make func(at int) api.Instr) api.Func {
	f := Func("f", 0, registers, 0)
	for at := range many - 1 {
		f.Code = append(f.Code, make(at))
	}
	f.Code = append(f.Code, last)
	return f
}
