package code_test

import (
	"strings"
	"testing"

	"doppel/api"
	"doppel/code"
	"doppel/sample"
)

// wordAt is what a unit has at an address, when its main begins.
func wordAt(at int, u api.Unit) api.Result {
	u.Funcs = []api.Func{sample.Func("main", 0, 1, 0, sample.Const(0, at), sample.Load(0, 0), sample.Return(0))}
	return code.Run(u, nil, plenty)
}

// TestMemoryAtFirst has globals of no word, of one and of several, several at one word, and one at the last word.
func TestMemoryAtFirst(t *testing.T) {
	global := func(at, size, value int) api.Global { return api.Global{At: at, Size: size, Init: value} }
	for what, c := range map[string]struct {
		u     api.Unit
		words map[int]int
	}{
		"no globals":               {api.Unit{Top: 1}, nil},
		"no globals, a Top":        {api.Unit{Top: 4096}, nil},
		"one word":                 {with(api.Unit{}, 2, global(1, 1, 5)), map[int]int{1: 5}},
		"values at both ends":      {with(api.Unit{}, 9, global(3, 1, -1<<31), global(5, 1, 1<<31-1), global(7, 1, -1)), map[int]int{3: -1 << 31, 5: 1<<31 - 1, 7: -1}},
		"several words":            {with(api.Unit{}, 9, global(2, 4, 5)), map[int]int{2: 5}},
		"no words":                 {with(api.Unit{}, 9, global(2, 0, 5)), map[int]int{2: 5}},
		"no words, at Top":         {with(api.Unit{}, 9, global(9, 0, 5)), map[int]int{9: 5}},
		"several at one word":      {with(api.Unit{}, 9, global(2, 1, 5), global(2, 1, 6), global(2, 1, 7)), map[int]int{2: 7}},
		"several, the last is 0":   {with(api.Unit{}, 9, global(2, 1, 5), global(2, 1, 6), global(2, 1, 0)), nil},
		"several, of all sizes":    {with(api.Unit{}, 9, global(2, 3, 5), global(2, 0, 6)), map[int]int{2: 6}},
		"several, the other way":   {with(api.Unit{}, 9, global(2, 0, 6), global(2, 3, 5)), map[int]int{2: 5}},
		"one within another":       {with(api.Unit{}, 9, global(3, 1, 6), global(2, 3, 5)), map[int]int{2: 5, 3: 6}},
		"the last word":            {with(api.Unit{}, 4096, global(4095, 1, 5)), map[int]int{4095: 5}},
		"the last word, no size":   {with(api.Unit{}, 4095, global(4095, 0, 5)), map[int]int{4095: 5}},
		"all words":                {with(api.Unit{}, 4096, global(1, 4095, 5)), map[int]int{1: 5}},
		"behind the last word":     {with(api.Unit{}, 4096, global(4096, 0, 5), global(4095, 1, 6)), map[int]int{4095: 6}},
		"all of them, out of turn": {with(api.Unit{}, 9, global(5, 1, 1), global(1, 2, 2), global(3, 1, 3), global(8, 1, 4)), map[int]int{1: 2, 3: 3, 5: 1, 8: 4}},
	} {
		for _, at := range []int{1, 2, 3, 4, 5, 6, 7, 8, 9, 10, 4094, 4095} {
			want(t, what+": at "+number(at), wordAt(at, c.u), exit(c.words[at]))
		}
		for _, at := range []int{0, 4096} {
			want(t, what+": at "+number(at), wordAt(at, c.u), trap(1))
		}
	}
}

// TestAddresses has each end of what an address may be, for Load and for Store.
func TestAddresses(t *testing.T) {
	for _, at := range []int{-1 << 31, -1<<31 + 1, -4096, -4095, -2, -1, 0, 1, 2, 100, 4094, 4095, 4096, 4097, 8191, 1 << 16, 1<<31 - 1} {
		r, both := trap(1), trap(1)
		if at >= 1 && at <= 4095 {
			r, both = exit(0), exit(at)
		}
		comes(t, "Load at "+number(at), alone(sample.Const(0, at), sample.Load(1, 0), sample.Return(1)), "", r)
		comes(t, "Store at "+number(at), alone(sample.Const(0, at), sample.Store(0, 0), sample.Return(1)), "", r)
		comes(t, "Store and Load at "+number(at), alone(sample.Const(0, at), sample.Store(0, 0), sample.Load(2, 0), sample.Return(2)), "", both)
	}
	// Words beside one that is stored at stay as they are.
	for _, at := range []int{2, 3, 4094} {
		for by := -1; by <= 1; by++ {
			u := alone(sample.Const(0, at), sample.Const(1, 7), sample.Store(0, 1), sample.Const(0, at+by), sample.Load(2, 0), sample.Return(2))
			comes(t, number(by)+" beside "+number(at), u, "", exit((1-by*by)*7))
		}
	}
	// An address may be computed, and lie outside of the function's own frame.
	comes(t, "ahead of the frame", with(unit(sample.Func("main", 0, 3, 1, sample.Frame(0, 0), sample.Const(1, 2), sample.Binary(api.Sub, 0, 0, 1), sample.Load(2, 0), sample.Return(2))), 9, api.Global{At: 7, Size: 1, Init: 5}), "", exit(5))
	comes(t, "behind the frame", unit(sample.Func("main", 0, 3, 1, sample.Frame(0, 1), sample.Const(1, 7), sample.Store(0, 1), sample.Load(2, 0), sample.Return(2))), "", exit(7))
}

// TestFramesThatFit has frames that fit exactly, and that have one word too many, of main and of a function that is called.
func TestFramesThatFit(t *testing.T) {
	for _, top := range []int{1, 2, 100, 4000, 4095, 4096} {
		for _, own := range []int{0, 1, 7, 96, 4095} {
			for _, other := range []int{0, 1, 5, 4095} {
				for more := range 2 {
					room := 4096 - top
					comes(t, "main, "+number(more)+" too many", with(unit(sample.Func("main", 0, 1, min(room+more, 4096), sample.Const(0, 'A'), sample.Putc(0), sample.Return(0))), top), "", []api.Result{result(api.Exit, 'A', "A"), result(api.Full, 0, "")}[more])
					if own > room || other > room-own {
						continue
					}
					// f has what is left by main, and g what is left by f.
					f := sample.Func("f", 0, 1, other, sample.Call(0, "g"), sample.Return(0))
					g := sample.Func("g", 0, 1, min(room-own-other+more, 4096), sample.Const(0, 'A'), sample.Putc(0), sample.Return(0))
					main := sample.Func("main", 0, 1, own, sample.Putc(0), sample.Call(0, "f"), sample.Return(0))
					comes(t, "a function, "+number(more)+" too many", with(unit(main, f, g), top), "", []api.Result{result(api.Exit, 'A', "\x00A"), result(api.Full, 0, "\x00")}[more])
				}
			}
		}
	}
}

// TestFrames has the addresses of frames within one another, and of those that come after others have ended.
func TestFrames(t *testing.T) {
	// f puts out its address, g its own and that of f within it, main all of them around a call of each.
	f := sample.Func("f", 0, 1, 3, sample.Frame(0, 0), sample.Putc(0), sample.Return(0))
	g := sample.Func("g", 0, 1, 5, sample.Frame(0, 0), sample.Putc(0), sample.Call(-1, "f"), sample.Frame(0, 5), sample.Putc(0), sample.Return(0))
	main := sample.Func("main", 0, 1, 2, sample.Frame(0, 0), sample.Putc(0), sample.Call(-1, "f"), sample.Call(-1, "g"), sample.Call(-1, "f"), sample.Frame(0, 1), sample.Putc(0), sample.Return(0))
	comes(t, "frames", with(unit(main, f, g), 70), "", result(api.Exit, 71, "FHHMMHG"))
	// A frame of no words is where the next one is.
	empty := sample.Func("e", 0, 1, 0, sample.Frame(0, 0), sample.Putc(0), sample.Call(-1, "f"), sample.Return(0))
	comes(t, "no words", with(unit(sample.Func("main", 0, 1, 0, sample.Call(-1, "e"), sample.Call(-1, "f"), sample.Return(0)), empty, f), 70), "", result(api.Exit, 0, "FFF"))
}

// TestFramesKeepTheirWords holds that a frame has what a call before has left there.
func TestFramesKeepTheirWords(t *testing.T) {
	put := sample.Func("put", 1, 3, 2, sample.Frame(1, 1), sample.Store(1, 0), sample.Return(1))
	get := sample.Func("get", 0, 2, 2, sample.Frame(1, 1), sample.Load(0, 1), sample.Return(0))
	main := func(l ...api.Instr) api.Func { return sample.Func("main", 0, 3, 1, l...) }
	comes(t, "what was put", unit(put, get, main(sample.Const(0, 7), sample.Call(-1, "put", 0), sample.Call(1, "get"), sample.Return(1))), "", exit(7))
	comes(t, "what was put, with another between", unit(put, get, main(sample.Const(0, 7), sample.Call(-1, "put", 0), sample.Const(0, 0), sample.Call(-1, "get"), sample.Call(1, "get"), sample.Return(1))), "", exit(7))
	comes(t, "nothing", unit(put, get, main(sample.Call(1, "get"), sample.Return(1))), "", exit(0))
	// What a main has stored behind its own frame, and a global that lies there.
	comes(t, "stored ahead", unit(get, main(sample.Const(0, 3), sample.Const(1, 9), sample.Store(0, 1), sample.Call(1, "get"), sample.Return(1))), "", exit(9))
	comes(t, "a global of no words", with(unit(get, main(sample.Call(1, "get"), sample.Return(1))), 3, api.Global{At: 3, Init: 5}), "", exit(0))
	comes(t, "a global of no words, in main's frame", with(unit(main(sample.Frame(0, 0), sample.Load(1, 0), sample.Return(1))), 3, api.Global{At: 3, Init: 5}), "", exit(5))
	// Where a function calls itself, each call has a frame of its own.
	f := sample.Func("f", 1, 4, 1, sample.Frame(1, 0), sample.Store(1, 0), sample.Branch(0, 3, 6), sample.Const(2, 1), sample.Binary(api.Sub, 2, 0, 2), sample.Call(2, "f", 2), sample.Load(3, 1), sample.Putc(3), sample.Return(3))
	comes(t, "frames of their own", unit(f, main(sample.Const(0, 3), sample.Call(0, "f", 0), sample.Return(0))), "", result(api.Exit, 3, "\x00\x01\x02\x03"))
}

// TestUntilNothingFits has functions that call themselves until there is no room.
func TestUntilNothingFits(t *testing.T) {
	for _, size := range []int{1, 2, 3, 100, 1000, 1365, 4095} {
		for _, own := range []int{0, 1, 50} {
			for _, top := range []int{1, 2, 2000, 4046} {
				f := sample.Func("f", 0, 2, size, sample.Const(0, 'A'), sample.Putc(0), sample.Call(1, "f"), sample.Return(0))
				u := with(unit(f, sample.Func("main", 0, 1, own, sample.Call(0, "f"), sample.Return(0))), top)
				comes(t, "frames of "+number(size), u, "", result(api.Full, 0, strings.Repeat("A", (4096-top-own)/size)))
			}
		}
	}
	// Two in turn, and main itself.
	a := sample.Func("a", 0, 1, 10, sample.Putc(0), sample.Call(0, "b"), sample.Return(0))
	b := sample.Func("b", 0, 1, 20, sample.Putc(0), sample.Call(0, "a"), sample.Return(0))
	comes(t, "two in turn", unit(a, b, sample.Func("main", 0, 1, 0, sample.Call(0, "a"), sample.Return(0))), "", result(api.Full, 0, strings.Repeat("\x00", 273)))
	comes(t, "main", unit(sample.Func("main", 0, 1, 1000, sample.Putc(0), sample.Call(0, "main"), sample.Return(0))), "", result(api.Full, 0, "\x00\x00\x00\x00"))
	// A frame that is left is free: as often as one likes.
	f := sample.Func("f", 0, 1, 4000, sample.Return(0))
	comes(t, "again and again", unit(f, sample.Func("main", 0, 3, 0, sample.Const(0, 1000), sample.Const(1, 1), sample.Call(-1, "f"), sample.Binary(api.Sub, 0, 0, 1), sample.Branch(0, 2, 5), sample.Return(1))), "", exit(1))
}
