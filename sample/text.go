package sample

import (
	"strconv"
	"strings"

	"doppel/api"
	"doppel/word"
)

// Read is the instructions of a text. They are parted by semicolons, and their words by spaces: "const 0 -5; add 2 0 1; call 3 g 1 2; store 2 3; branch 2 1 4; return 3". So there stand the Dst, then what is read, or N, then where it goes on.
func Read(text string) []api.Instr {
	var l []api.Instr
	for part := range strings.SplitSeq(text, ";") {
		words := strings.Fields(part)
		if len(words) == 0 {
			panic("nothing stands there: " + text)
		}
		l = append(l, read(words))
	}
	return l
}

// read is the instruction of some words. The words that it is written as must be the same ones.
func read(words []string) api.Instr {
	var n [3]int
	for k := range min(len(words)-1, len(n)) {
		n[k], _ = strconv.Atoi(words[k+1])
	}
	op, _ := word.Named(words[0])
	i := map[string]api.Instr{
		"const": Const(n[0], n[1]), "copy": Copy(n[0], n[1]), "frame": Frame(n[0], n[1]), "load": Load(n[0], n[1]), "store": Store(n[0], n[1]), "getc": Getc(n[0]),
		"putc": Putc(n[0]), "jump": Jump(n[0]), "branch": Branch(n[0], n[1], n[2]), "return": Return(n[0]),
	}[words[0]]
	switch {
	case word.Two(op):
		i = Binary(op, n[0], n[1], n[2])
	case word.One(op):
		i = Unary(op, n[0], n[1])
	case words[0] == "call" && 3 <= len(words) && len(words) <= 3+api.MaxParams:
		i = Call(n[0], words[2])
		i.N = len(words) - 3
		for k, text := range words[3:] {
			i.Args[k], _ = strconv.Atoi(text)
		}
	}
	if line(i) != strings.Join(words, " ") {
		panic("no instruction: " + strings.Join(words, " "))
	}
	return i
}

// line is an instruction as Read takes it, if it may be.
func line(i api.Instr) string {
	write := func(name string, numbers ...int) string {
		for _, n := range numbers {
			name += " " + strconv.Itoa(n)
		}
		return name
	}
	switch i.Kind {
	case api.Const:
		return write("const", i.Dst, i.N)
	case api.Unary:
		return write(word.Name(i.Op), i.Dst, i.A)
	case api.Binary:
		return write(word.Name(i.Op), i.Dst, i.A, i.B)
	case api.Copy:
		return write("copy", i.Dst, i.A)
	case api.Frame:
		return write("frame", i.Dst, i.N)
	case api.Load:
		return write("load", i.Dst, i.A)
	case api.Store:
		return write("store", i.A, i.B)
	case api.Call:
		return write(write("call", i.Dst)+" "+i.Text, i.Args[:min(max(i.N, 0), len(i.Args))]...)
	case api.Getc:
		return write("getc", i.Dst)
	case api.Putc:
		return write("putc", i.A)
	case api.Jump:
		return write("jump", i.To)
	case api.Branch:
		return write("branch", i.A, i.To, i.Else)
	case api.Return:
		return write("return", i.A)
	}
	return write("kind", i.Kind)
}

// Show is a function's text, for what a test tells: its instructions as Read takes them, each with its place.
func Show(f api.Func) string {
	var out strings.Builder
	out.WriteString(f.Name)
	for _, n := range []int{f.Params, f.Regs, f.Frame} {
		out.WriteString(" " + strconv.Itoa(n))
	}
	for at, i := range f.Code {
		out.WriteString("\n" + strconv.Itoa(at) + ": " + line(i))
	}
	return out.String()
}
