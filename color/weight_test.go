package color_test

import (
	"math"
	"testing"

	"doppel/color"
)

// weighing is a function of so many registers, and what they weigh.
type weighing struct {
	what    string
	regs    int
	code    string
	weights []complex128
}

func (w weighing) tells(t *testing.T) {
	t.Helper()
	same(t, w.what+": Weights", color.Weights(function(t, w.what, 0, w.regs, w.code)), w.weights)
}

type weights = []complex128

func TestWeightsOutsideLoops(t *testing.T) {
	for _, w := range []weighing{
		{"the example", 3, "const 0 1; const 1 2; add 2 0 1; return 2", weights{2, 2, 2}},
		{"not named at all", 4, "const 1 5; return 1", weights{0, 2, 0, 0}},
		{"no register", 0, "jump 0", nil},
		{"named nowhere", 2, "jump 1; jump 0", weights{0, 0}},
		{"named once", 1, "return 0", weights{1}},
		{"each kind", 8, "const 1 9; neg 2 3; sub 4 5 6; copy 7 1; frame 2 3; load 3 4; store 5 6; call 7 g 1 2; getc 3; putc 4; jump 11; branch 5 12 12; return 6",
			weights{0, 3, 3, 3, 3, 3, 3, 2}},
		{"a word is no register", 4, "const 3 1; frame 3 2; return 3", weights{0, 0, 0, 3}},
		{"A and B", 2, "store 0 0; return 1", weights{2, 1}},
		{"Dst and A", 2, "neg 0 0; return 1", weights{2, 1}},
		{"Dst, A and B", 2, "mul 0 0 0; return 1", weights{3, 1}},
		{"Dst and B", 3, "mul 0 1 0; return 2", weights{2, 1, 1}},
		{"Args", 3, "call -1 g 0 1 0 0 1 0; return 2", weights{4, 2, 1}},
		{"Dst and Args", 2, "call 0 g 0 0 0 0 0 0; return 1", weights{7, 1}},
		{"Dst and none", 2, "call 0 g; return 1", weights{1, 1}},
		{"nothing of a Call", 2, "call -1 g; return 1", weights{0, 1}},
		{"twice by a Call, and others not", 2, "call -1 g 1 1; return 1", weights{0, 3}},
		{"not reached", 3, "return 0; add 0 1 1; putc 2; return 1", weights{2, 3, 1}},
		{"a loop that is not reached", 3, "return 0; putc 1; branch 2 1 2; jump 1", weights{1, 1, 1}},
		{"a loop with two ways in", 3, "branch 0 1 3; putc 1; jump 3; putc 2; branch 2 1 5; return 0", weights{2, 1, 2}},
	} {
		w.tells(t)
	}
}

func TestWeightsInLoops(t *testing.T) {
	for _, w := range []weighing{
		{"one instruction", 2, "branch 0 0 1; return 1", weights{1 + 1i, 1}},
		{"the last instruction", 2, "putc 1; branch 0 1 1", weights{1 + 1i, 1}},
		{"a loop", 3, "const 0 9; putc 1; branch 0 1 3; return 2", weights{2 + 1i, 1 + 1i, 1}},
		{"several times at once", 2, "call 0 g 0 0 1; branch 1 0 2; return 1", weights{3 + 3i, 3 + 2i}},
		{"all of it", 2, "add 0 0 0; putc 1; jump 0", weights{3 + 3i, 1 + 1i}},
		{"tested at its head", 3, "const 0 9; branch 0 2 4; putc 1; jump 1; return 2", weights{2 + 1i, 1 + 1i, 1}},
		{"a way out of it", 4, "putc 0; branch 1 2 4; putc 2; branch 3 0 5; putc 3; return 2", weights{1 + 1i, 1 + 1i, 2 + 1i, 2 + 1i}},
		{"what only its end leads to", 2, "putc 0; branch 0 0 2; putc 1; return 1", weights{2 + 2i, 2}},
		{"what leads to it, and is not reached", 3, "jump 3; putc 1; jump 4; putc 0; branch 2 3 5; return 0", weights{2 + 1i, 1, 1 + 1i}},
		{"one in the other", 4, "putc 0; putc 1; branch 1 1 3; branch 2 0 4; return 3", weights{1 + 1i, 2 + 4i, 1 + 1i, 1}},
		{"one in the other, tested at their heads", 4, "branch 0 1 5; branch 1 2 4; putc 2; jump 1; jump 0; return 3", weights{1 + 1i, 1 + 2i, 1 + 2i, 1}},
		{"three in one another", 4, "putc 0; putc 1; putc 2; branch 2 2 4; branch 1 1 5; branch 0 0 6; return 3", weights{2 + 2i, 2 + 4i, 2 + 6i, 1}},
		{"beside one another", 3, "putc 0; branch 0 0 2; putc 1; branch 1 2 4; return 2", weights{2 + 2i, 2 + 2i, 1}},
		{"beside one another, the same register", 1, "putc 0; branch 0 0 2; putc 0; branch 0 2 4; return 0", weights{5 + 4i}},
		{"beside one another, in another one", 4, "putc 0; putc 1; branch 1 1 3; putc 2; branch 2 3 5; branch 0 0 6; return 3", weights{2 + 2i, 2 + 4i, 2 + 4i, 1}},
		{"with one header", 4, "putc 0; branch 1 2 4; putc 2; jump 0; putc 3; branch 3 0 6; return 1", weights{1 + 1i, 2 + 1i, 1 + 1i, 2 + 2i}},
		{"with one header, one behind the other", 3, "putc 0; branch 1 0 2; branch 2 0 3; return 2", weights{1 + 1i, 1 + 1i, 2 + 1i}},
		{"with one header, twice by one Branch", 1, "putc 0; branch 0 0 0", weights{2 + 2i}},
		{"an edge to the head from outside", 3, "const 0 9; branch 0 2 2; putc 1; branch 1 2 4; branch 0 5 5; return 2", weights{3, 2 + 2i, 1}},
		{"within one with two ways in", 3, "branch 0 1 3; putc 1; branch 1 1 3; putc 2; branch 2 1 5; return 0", weights{2, 2 + 2i, 2}},
	} {
		w.tells(t)
	}
}

func TestLight(t *testing.T) {
	for _, c := range []struct {
		weight complex128
		light  int
	}{
		{0, 0}, {1, 1}, {1i, 8}, {1 + 1i, 9}, {2 + 3i, 26}, {7 + 7i, 63}, {8, 8}, {9 + 0i, 9}, {0 + 9i, 72},
		{57344 + 8192*57344i, 57344 + 8*8192*57344}, {1 << 31, 1 << 31}, {1i * (1 << 31), 1 << 34}, {1<<40 + 1i*(1<<41), 1<<40 + 1<<44}, {1<<53 - 1, 1<<53 - 1}, {3 + 1i*(1<<49), 1<<52 + 3},
		{-1, -1}, {-1i, -8}, {8 - 1i, 0}, {-3 + 2i, 13}, {-1 << 62, -1 << 62}, {1 << 62, 1 << 62},
	} {
		if light := color.Light(c.weight); light != c.light {
			t.Error("Light of", c.weight, "is", light, "wanted", c.light)
		}
	}
}

// TestLightOfAnything has numbers that are no weights: there is an answer all the same, and always the same one.
func TestLightOfAnything(t *testing.T) {
	parts := []float64{0, math.Copysign(0, -1), 0.5, -0.5, 1e-300, 1e18, -1e18, 1 << 63, -1 << 63, 1e300, -1e300, math.MaxFloat64, -math.MaxFloat64, math.Inf(1), math.Inf(-1), math.NaN()}
	for _, a := range parts {
		for _, b := range parts {
			light, sum := color.Light(complex(a, b)), a+8*b
			switch {
			case math.IsNaN(sum) && light != 0, sum >= 1<<63 && light != math.MaxInt, sum < -1<<63 && light != math.MinInt, math.Abs(sum) < 1<<62 && light != int(sum):
				t.Error("Light of", a, b, "is", light)
			}
		}
	}
}
